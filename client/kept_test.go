package client

import (
	"testing"

	"sherd/api"
)

// TestNumbersEnd: MaxOp operations may be begun, and no more: behind all other refusals.
func TestNumbersEnd(t *testing.T) {
	c, _ := New(api.Config{N: 3, K: 1}, 7)
	c.begun = api.MaxOp - 1
	op, l, e := c.Put("k", nil)
	if op != api.MaxOp || len(l) != 3 || l[2].Op != api.MaxOp || e != api.OK {
		t.Fatalf("L1: the last operation is %d, %v, %d", op, l, e)
	}
	if _, _, e := c.Put("k", nil); e != api.ErrBusy {
		t.Errorf("L1: Put of a busy one is %d", e)
	}
	d := c.Copy()
	for _, c := range []*Client{c, d} {
		c.Handle(api.Message{Kind: api.Told, Client: 7, Op: api.MaxOp, Key: "k"})
		if r, e := c.Cancel(); r.Op != api.MaxOp || e != api.OK {
			t.Errorf("L1: Cancel of the last operation is %v, %d", r, e)
		}
		for range 2 {
			if op, l, e := c.Put("k", nil); op != 0 || len(l) != 0 || e != api.ErrFull {
				t.Errorf("L1: Put behind the last one is %d, %v, %d", op, l, e)
			}
			if op, l, e := c.Get("k"); op != 0 || len(l) != 0 || e != api.ErrFull {
				t.Errorf("L1: Get behind the last one is %d, %v, %d", op, l, e)
			}
		}
		if _, _, e := c.Get(""); e != api.ErrKey {
			t.Errorf("L1: Get of no key behind the last one is %d", e)
		}
		if _, _, e := c.Put("k", make([]byte, api.MaxValue+1)); e != api.ErrValue {
			t.Errorf("L1: Put of too much behind the last one is %d", e)
		}
		if c.begun != api.MaxOp || c.now != nil {
			t.Errorf("L1: %d are begun, %v is under way", c.begun, c.now)
		}
	}
}

// TestKeptKeys: counters are kept of those keys alone for which a tag was chosen, and nothing is kept of what has ended.
func TestKeptKeys(t *testing.T) {
	c, _ := New(api.Config{N: 1, K: 1}, 7)
	told := func(top api.Tag) (api.Result, bool) {
		_, r, end := c.Handle(api.Message{Kind: api.Told, Client: 7, Op: c.begun, Key: c.now.key, Top: top})
		return r, end
	}
	c.Put("cancelled", nil)
	c.Cancel()
	c.Get("absent")
	told(api.Tag{})
	c.Get("read")
	told(api.Tag{Count: 3, Client: 3})
	c.Cancel()
	c.Put("full", nil)
	if r, end := told(api.Tag{Count: api.MaxCount, Client: 9}); !end || r.Status != api.ErrFull {
		t.Errorf("L1: a Put with no tag left is %v, %v", r, end)
	}
	c.Put("", nil)
	if len(c.used) != 0 || c.now != nil {
		t.Errorf("rule 8: it keeps %v, %v", c.used, c.now)
	}
	c.Put("k", nil)
	told(api.Tag{Count: 3, Client: 3})
	c.Cancel()
	if len(c.used) != 1 || c.used["k"] != 3 || c.now != nil {
		t.Errorf("L2: it keeps %v, %v", c.used, c.now)
	}
}

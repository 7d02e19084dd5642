package order_test

import (
	"slices"
	"testing"

	"sherd/api"
	"sherd/order"
)

// TestManyCalls: of lists of many calls, each with a shape of its own, both calls take a moment alone, and answer as they do of few.
func TestManyCalls(t *testing.T) {
	const many = 200000
	x := tg(1, 1)
	upTo := make([]int, many)
	for i := range upTo {
		upTo[i] = i
	}
	shapes := map[string]func(i int) api.Call{
		"Puts one behind the other": func(i int) api.Call { return put("a", 2*i, 2*i+1, tg(int64(i+1), 1)) },
		"Puts beside one another":   func(i int) api.Call { return put("a", 0, many, tg(1+int64(i)/65535, 1+i%65535)) },
		"Gets of nothing":           func(i int) api.Call { return none(i, i+1) },
		"one Put and its Gets": func(i int) api.Call {
			if i == 0 {
				return put("a", 0, many, x)
			}
			return get("a", i, i+many, x)
		},
		"a Put and a Get": func(i int) api.Call {
			if i%2 == 0 {
				return put("a", i, i+1, tg(int64(i+1), 1))
			}
			return get("a", i, i+1, tg(int64(i), 1))
		},
	}
	for name, shape := range shapes {
		calls := make([]api.Call, many)
		for i := range calls {
			calls[i] = shape(i)
		}
		o, e := order.ByTags(calls)
		if e != api.OK || !slices.Equal(o, upTo) {
			t.Errorf("O1: %s: ByTags is %d, of %d", name, int(e), len(o))
		}
		if e := order.Check(calls, upTo); e != api.OK {
			t.Errorf("O1: %s: Check is %d", name, int(e))
		}
		if e := order.Check(calls, append(slices.Clone(upTo), 0)); e != api.ErrOrder {
			t.Errorf("O1: %s: Check with one twice is %d", name, int(e))
		}
	}
}

// TestManyTheWrongWay: each was begun when the one behind it had returned.
func TestManyTheWrongWay(t *testing.T) {
	const many = 200000
	var calls []api.Call
	var asTheyStand, want []int
	for i := range many {
		calls = append(calls, put("a", 2*(many-i), 2*(many-i)+1, tg(int64(many-i), 1)))
		asTheyStand = append(asTheyStand, i)
		want = append(want, many-1-i)
	}
	if o, e := order.ByTags(calls); e != api.OK || !slices.Equal(o, want) {
		t.Errorf("O1: ByTags is %d, of %d", int(e), len(o))
	}
	if e := order.Check(calls, want); e != api.OK {
		t.Errorf("O1: Check is %d", int(e))
	}
	if e := order.Check(calls, asTheyStand); e != api.ErrOrder {
		t.Errorf("O1: Check of the wrong way is %d", int(e))
	}
}

// TestManyClients: open Puts without a tag, each of a client of its own and twice, and Gets of which each finds its Put.
func TestManyClients(t *testing.T) {
	var calls []api.Call
	var want []int
	for i := range api.MaxClients {
		calls = append(calls, open("old", 1+i, 0, tg(0, 0)), open("a", 1+i, 0, tg(0, 0)), get("a", 2*i+1, 2*i+2, tg(7, 1+i)))
		want = append(want, 3*i+1, 3*i+2)
	}
	if o, e := order.ByTags(calls); e != api.OK || !slices.Equal(o, want) {
		t.Errorf("O1: ByTags is %d, of %d", int(e), len(o))
	}
	if e := order.Check(calls, want); e != api.OK {
		t.Errorf("O1: Check is %d", int(e))
	}
	calls = append(calls, get("a", 0, 1, tg(8, 40000)))
	if o, e := order.ByTags(calls); e != api.ErrOrder || len(o) != 0 {
		t.Errorf("O1: ByTags is %d, of %d", int(e), len(o))
	}
}

package cluster

import (
	"testing"

	"sherd/api"
)

// TestKept: nothing is kept of an operation that has ended, of a client that has stopped, or of what was armed.
func TestKept(t *testing.T) {
	c, _ := New(api.Config{N: 1, K: 1}, 1)
	n, s := c.clients[1], c.servers[0]
	do := func(kind, a, b int) {
		t.Helper()
		if _, e := c.Do(api.Step{Kind: kind, A: a, B: b, Key: "k", Value: []byte("v"), L: []int{1, 2}}); e != api.OK {
			t.Fatal(e)
		}
	}
	idle := func() bool { return n.work.value == nil && n.work.answers == nil && n.work.top == api.Tag{} }
	do(api.SPut, 1, 0)
	do(api.SCancel, 1, 0)
	if !idle() {
		t.Errorf("rule 8: behind a cancel it keeps %v", n.work)
	}
	for _, kind := range []int{api.SPut, api.SGet} {
		do(kind, 1, 0)
		for c.net.Len() > 0 {
			do(api.SDeliver, 0, 0)
		}
		if !idle() {
			t.Errorf("rule 8: behind a return it keeps %v", n.work)
		}
	}
	do(api.SDie, 0, 3)
	do(api.SDie, 0, 0)
	if s.armed.list != nil || s.armed.acts != 0 {
		t.Errorf("rule 8: behind SDie with B 0 it keeps %v", s.armed)
	}
	do(api.SDie, 0, 3)
	do(api.SCrash, 0, 0)
	if s.armed.list != nil || s.server != nil {
		t.Errorf("rule 8: of a server that is down it keeps %v, %v", s.armed, s.server)
	}
	do(api.SPut, 1, 0)
	do(api.SStop, 1, 0)
	if !idle() || n.client != nil || n.used != nil {
		t.Errorf("rule 8: of a client that has stopped it keeps %v", n)
	}
}

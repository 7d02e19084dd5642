package net

import (
	"testing"

	"sherd/api"
)

// TestNothingIsHeldThatIsInFlightNoMore: what was taken is the caller's alone, so the list's spare room must not have it either.
func TestNothingIsHeldThatIsInFlightNoMore(t *testing.T) {
	for i := range 4 {
		for _, out := range []func(*Net, int) api.Errno{(*Net).Drop, func(n *Net, i int) api.Errno { _, e := n.Take(i); return e }} {
			n := New()
			for range 4 {
				n.Send(api.Packet{From: api.Node{Kind: api.NClient, Id: 1}, To: api.Node{Kind: api.NServer}, Data: []byte("abc"), Lost: true})
			}
			if e := out(n, i); e != api.OK {
				t.Fatal(e)
			}
			for _, p := range n.flight[len(n.flight):cap(n.flight)] {
				if p.Data != nil || p.Lost || p.From != (api.Node{}) || p.To != (api.Node{}) {
					t.Errorf("P12.5: behind number %d's end the list still holds %v", i, p)
				}
			}
		}
	}
}

package server

import (
	"math/rand/v2"
	"testing"

	"sherd/api"
	"sherd/disk"
)

// checkTally: the entries are counted as the table has them.
func checkTally(t *testing.T, s *Server) {
	t.Helper()
	all := 0
	for _, h := range s.table.All() {
		all += len(h.Entries)
		if s.sizes.keys[h.Key] != len(h.Entries) {
			t.Fatalf("P16.2: of %q %d entries are counted, there are %d", h.Key, s.sizes.keys[h.Key], len(h.Entries))
		}
	}
	if s.sizes.all != all || len(s.sizes.keys) != len(s.table.Keys()) {
		t.Fatalf("P16.2: %d entries of %d keys are counted, there are %d of %d", s.sizes.all, len(s.sizes.keys), all, len(s.table.Keys()))
	}
}

func TestTheEntriesAreCounted(t *testing.T) {
	rnd := rand.New(rand.NewPCG(16, 9))
	for run := range 200 {
		d := disk.New()
		h := api.Head{Config: api.Config{N: 1, K: 1, Delta: run % 4}}
		s, e := Open(h, d)
		if e != api.OK {
			t.Fatal(e)
		}
		for range 120 {
			m := api.Message{Kind: []int{api.Pre, api.Fin, api.Read}[rnd.IntN(3)], Client: 1, Op: 1, Key: []string{"a", "b", "c"}[rnd.IntN(3)], Tag: api.Tag{Count: 1 + rnd.Int64N(25), Client: 1 + rnd.IntN(2)}}
			if rnd.IntN(300) == 0 {
				d.Stop(1+rnd.IntN(6), rnd.IntN(2) == 0)
			}
			s.Handle(m)
			checkTally(t, s)
			if rnd.IntN(20) == 0 {
				d = d.Crash([]int{rnd.IntN(3), rnd.IntN(20), rnd.IntN(3)})
				if s, e = Open(h, d); e != api.OK {
					t.Fatal(e)
				}
				checkTally(t, s)
			}
		}
	}
}

// TestTheKindsOfRequests: each has its row, and nothing else has.
func TestTheKindsOfRequests(t *testing.T) {
	for kind := -1; kind < 12; kind++ {
		_, there := requests()[kind]
		if want := kind == api.Ask || kind == api.Pre || kind == api.Fin || kind == api.Read; there != want {
			t.Errorf("P16.2: the kind %d is a request: %v", kind, there)
		}
	}
}

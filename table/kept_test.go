package table

import (
	"math/rand/v2"
	"testing"

	"sherd/api"
	"sherd/tag"
)

// checkKept: the set of finalized tags says the same as the entries do, and nothing more is kept.
func checkKept(t *testing.T, b *Table) {
	t.Helper()
	for key, r := range b.rows {
		finals := 0
		for g, h := range r.tags {
			if h.fin != r.finals.Has(g) {
				t.Fatalf("P15.6: %v of %q is finalized in one place alone", g, key)
			}
			if h.fin {
				finals++
			}
			if !h.has && len(h.data) > 0 {
				t.Fatalf("P15.3: %v of %q has data, and no fragment", g, key)
			}
		}
		if finals != r.finals.Len() || len(r.tags) == 0 {
			t.Fatalf("P15.6: %q keeps %d finalized tags of %d entries, the set has %d", key, finals, len(r.tags), r.finals.Len())
		}
	}
}

func TestNoMoreIsKeptThanTheEntries(t *testing.T) {
	r := rand.New(rand.NewPCG(15, 8))
	refused := 0
	for run := range 200 {
		b, _ := New(run % 4)
		for range 60 {
			u := api.Update{Kind: r.IntN(5), Key: []string{"", "a", "b", "c"}[r.IntN(4)], Entry: api.Entry{Tag: api.Tag{Count: r.Int64N(9), Client: r.IntN(3)}, Fin: r.IntN(4) == 0, Has: r.IntN(4) == 0, Data: []byte("xy")[:r.IntN(3)]}}
			if _, e := b.Apply(u); e != api.OK {
				refused++
			}
			b.Would(u)
			b.Floor("none")
			b.Entries("none")
			checkKept(t, b)
			c := b.Copy()
			c.Apply(u)
			checkKept(t, c)
		}
		if len(b.rows) > 3 {
			t.Fatalf("P15.3: %d keys have rows", len(b.rows))
		}
	}
	if refused < 1000 || refused > 11000 {
		t.Errorf("%d of 12000 are refused: the test says little", refused)
	}
}

func TestTheZeroRowCanBeAsked(t *testing.T) {
	var r row
	if !tag.Zero(r.top()) || !tag.Zero(r.floor(0)) || len(r.entries()) != 0 || r.fragments() != 0 {
		t.Error("P15.3: the zero row has entries")
	}
	u := api.Update{Kind: api.UFin, Key: "k", Entry: api.Entry{Tag: api.Tag{Count: 1, Client: 1}}}
	if r.lacks(u, 0) != (lack{final: true}) {
		t.Error("P15.2: the zero row lacks nothing")
	}
}

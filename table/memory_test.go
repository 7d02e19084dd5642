package table_test

import (
	"bytes"
	"slices"
	"sync"
	"testing"

	"sherd/api"
	"sherd/table"
)

// roomy: a copy with spare room behind, which is filled.
func roomy(text string) []byte {
	all := append([]byte(text), bytes.Repeat([]byte{0xee}, 16)...)
	return all[:len(text)]
}

// overwrite writes all over a list, its spare room too.
func overwrite(b []byte) {
	b = b[:cap(b)]
	for i := range b {
		b[i] = 0xaa
	}
}

func TestWhatIsGivenIsNotChangedAndNotKept(t *testing.T) {
	for _, text := range []string{"", "a", "a longer one, of more bytes"} {
		for _, kind := range []int{api.UPre, api.UEntry} {
			given := roomy(text)
			before := bytes.Clone(given[:cap(given)])
			u := api.Update{Kind: kind, Key: "k", Entry: api.Entry{Tag: tg(1, 1), Has: kind == api.UEntry, Data: given}}
			b, p := both(t, 0)
			do(t, b, p, u)
			do(t, b, p, u)
			do(t, b, p, fin("k", tg(1, 1)))
			c := b.Copy()
			b.Updates()
			if !bytes.Equal(given[:cap(given)], before) {
				t.Fatalf("P15.8: what was given was changed: %q", given[:cap(given)])
			}
			overwrite(given)
			check(t, b, p, "an overwriting of what was given")
			check(t, c, p, "an overwriting of what was given")
		}
	}
}

// allTold: each fragment as each call that tells it does.
func allTold(b *table.Table) [][]byte {
	var told [][]byte
	for _, h := range b.All() {
		for _, e := range h.Entries {
			one, _ := b.Get(h.Key, e.Tag)
			told = append(told, e.Data, one.Data)
		}
		for _, e := range b.Entries(h.Key) {
			told = append(told, e.Data)
		}
	}
	for _, u := range b.Updates() {
		told = append(told, u.Entry.Data)
	}
	return told
}

// some is a table with entries of all kinds.
func some(t *testing.T) (*table.Table, *paper) {
	t.Helper()
	b, p := both(t, 1)
	for _, u := range []api.Update{pre("k", tg(1, 1), "one"), fin("k", tg(1, 1)), pre("k", tg(2, 1), "two"), fin("k", tg(3, 1)), pre("j", tg(1, 1), "one"), pre("j", tg(1, 2), ""), stood("i", tg(9, 9), true, "a longer one, of more bytes")} {
		do(t, b, p, u)
	}
	return b, p
}

func TestWhatIsToldIsNewMemory(t *testing.T) {
	b, p := some(t)
	c := b.Copy()
	told, again := allTold(b), allTold(b)
	want := make([][]byte, len(told))
	for i, one := range told {
		want[i] = bytes.Clone(one)
	}
	for _, one := range append(told, allTold(c)...) {
		overwrite(one)
		check(t, b, p, "an overwriting of what was told")
		check(t, c, p, "an overwriting of what was told")
	}
	for i, one := range again {
		if !bytes.Equal(one, want[i]) {
			t.Fatalf("P15.8: a fragment that was told once more is %q, want %q", one, want[i])
		}
		overwrite(one)
		for j := i + 1; j < len(again); j++ {
			if !bytes.Equal(again[j], want[j]) {
				t.Fatalf("P15.8: fragments %d and %d share memory", i, j)
			}
		}
	}
}

func TestListsThatAreToldAreNewMemory(t *testing.T) {
	b, p := some(t)
	c, q := some(t)
	all, keys, es, us := b.All(), b.Keys(), b.Entries("k"), b.Updates()
	others := [][]api.Entry{b.Entries("k"), all[2].Entries}
	for _, h := range all[:2] {
		h.Entries = append(h.Entries[:0], api.Entry{}, api.Entry{}, api.Entry{}, api.Entry{})
	}
	clear(all)
	clear(keys)
	clear(es)
	clear(us)
	_ = append(es[:0], api.Entry{Tag: tg(7, 7)}, api.Entry{}, api.Entry{}, api.Entry{}, api.Entry{})
	for _, other := range others {
		if !sameEntries(other, c.Entries("k")) {
			t.Errorf("P15.8: two lists share memory: %s", text(other))
		}
	}
	check(t, b, p, "an overwriting of what was told")
	check(t, c, q, "an overwriting of what another told")
}

func TestCopiesPart(t *testing.T) {
	more := []api.Update{pre("k", tg(3, 1), "three"), fin("k", tg(2, 1)), fin("k", tg(4, 1)), pre("k", tg(9, 1), "nine"), fin("h", tg(1, 1)), stood("j", tg(1, 1), true, "x"), fin("j", tg(5, 5)), pre("k", tg(1, 1), "one")}
	for which := range 3 { // which of the three goes on
		b, p := some(t)
		c := b.Copy()
		tables := []*table.Table{b, c, c.Copy()}
		papers := []*paper{p, p.copy(), p.copy()}
		for i := range tables {
			check(t, tables[i], papers[i], "Copy")
		}
		for _, u := range more {
			do(t, tables[which], papers[which], u)
			for i := range tables {
				check(t, tables[i], papers[i], "a change of one of the copies")
			}
		}
		for i := range tables { // then each does the same, in another order
			for j := range more {
				do(t, tables[i], papers[i], more[(i*3+j)%len(more)])
			}
		}
	}
}

func TestACopyHasTheSameDelta(t *testing.T) {
	for _, delta := range []int{0, 1, 3, 1<<62 - 1} {
		b, p := both(t, delta)
		c, q := b.Copy(), p.copy()
		for i := range 6 {
			do(t, c, q, stood("k", tg(int64(i)+1, 1), true, "x"))
		}
		check(t, b, p, "a change of its copy")
		if n := len(c.Entries("k")); n != min(6, delta+1) {
			t.Errorf("P15.5: the copy of an empty table of delta %d keeps %d", delta, n)
		}
	}
}

func TestANilTable(t *testing.T) {
	var b *table.Table
	for _, u := range []api.Update{{}, pre("k", tg(1, 1), "x"), fin("k", tg(1, 1)), fin("", api.Tag{}), {Kind: 9}} {
		if would, e := b.Would(u); would || e != api.OK {
			t.Errorf("P15.8: Would of a nil table is %v, %d", would, e)
		}
		if did, e := b.Apply(u); did || e != api.OK {
			t.Errorf("P15.8: Apply of a nil table is %v, %d", did, e)
		}
	}
	for _, key := range []string{"", "k"} {
		if b.Top(key) != (api.Tag{}) || b.Floor(key) != (api.Tag{}) || b.Entries(key) != nil || b.Fragments(key) != 0 {
			t.Errorf("P15.8: a nil table has entries of %q", key)
		}
		if e, ok := b.Get(key, tg(1, 1)); ok || !sameEntry(e, api.Entry{}) {
			t.Errorf("P15.8: Get of a nil table is %v, %v", e, ok)
		}
	}
	if b.Keys() != nil || b.All() != nil || b.Updates() != nil || b.Copy() != nil {
		t.Error("P15.8: a nil table tells something")
	}
}

func TestTwoTablesHaveNothingInCommon(t *testing.T) {
	b, p := both(t, 0)
	c, q := both(t, 0)
	do(t, b, p, pre("k", tg(1, 1), "b"))
	do(t, c, q, fin("k", tg(2, 1)))
	do(t, c, q, pre("k", tg(2, 1), "c"))
	check(t, b, p, "changes of another")
	do(t, b, p, fin("j", tg(1, 1)))
	check(t, c, q, "changes of another")
}

func TestTablesAndQuestionsBesideEachOther(t *testing.T) {
	b, p := some(t)
	want := textOfAll(p.all())
	var group sync.WaitGroup
	told := make([]string, 16)
	for i := range told {
		group.Go(func() {
			if i%2 == 0 {
				told[i] = askAll(b)
				return
			}
			c := b.Copy()
			c.Apply(fin("k", tg(99, i)))
			c.Apply(fin("new", tg(99, i)))
			told[i] = askAll(b)
		})
	}
	group.Wait()
	for _, one := range told {
		if one != want {
			t.Errorf("P3: beside others a table tells %s, want %s", one, want)
		}
	}
	check(t, b, p, "questions beside each other")
}

// askAll asks everything, and tells All.
func askAll(b *table.Table) string {
	for _, key := range slices.Concat(b.Keys(), []string{"none"}) {
		b.Top(key)
		b.Floor(key)
		b.Get(key, tg(1, 1))
		b.Fragments(key)
		b.Would(fin(key, tg(50, 1)))
	}
	b.Updates()
	return textOfAll(b.All())
}

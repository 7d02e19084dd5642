package scrub_test

import (
	"bytes"
	"math/rand/v2"
	"slices"
	"strings"
	"testing"

	"sherd/api"
	"sherd/scrub"
	"sherd/stripe"
	"sherd/table"
)

// grown is the table that entries make, one by one, and whether each changed something.
func grown(t *testing.T, held []api.Held, delta int) (*table.Table, bool) {
	t.Helper()
	b, e := table.New(delta)
	if e != api.OK {
		t.Fatalf("table.New(%d) is %d", delta, int(e))
	}
	all := true
	for _, h := range held {
		for _, e := range h.Entries {
			did, _ := b.Apply(api.Update{Kind: api.UEntry, Key: h.Key, Entry: e})
			all = all && did
		}
	}
	return b, all
}

// stands tells whether entries are what some table tells: then they may be looked at, and else not.
func stands(t *testing.T, held []api.Held, delta int) bool {
	t.Helper()
	b, all := grown(t, held, delta)
	return all && sameTable(b.All(), held)
}

// drawer draws tables of a config.
type drawer struct {
	*rand.Rand
	c      api.Config
	keys   []string
	tags   []api.Tag
	values map[string][2][]byte // by key and tag: the value, and another one
}

func newDrawer(r *rand.Rand) *drawer {
	n := 1 + r.IntN(6)
	return &drawer{
		Rand:   r,
		c:      api.Config{N: n, K: 1 + r.IntN(n), Delta: []int{0, 0, 1, 2, 1<<62 - 1}[r.IntN(5)]},
		keys:   some(r, []string{"k", "kk", "k\x00", "j", "\xff", "\x7f", strings.Repeat("z", 64)}),
		tags:   some(r, []api.Tag{tg(1, 1), tg(1, 2), tg(2, 1), tg(2, 65535), tg(10, 1), tg(1<<62-1, 3)}),
		values: map[string][2][]byte{},
	}
}

// some is at least one of a list, in any order.
func some[T any](r *rand.Rand, all []T) []T {
	r.Shuffle(len(all), func(i, j int) { all[i], all[j] = all[j], all[i] })
	return all[:1+r.IntN(min(4, len(all)))]
}

func (d *drawer) noise(long int) []byte {
	b := make([]byte, long)
	for i := range b {
		b[i] = byte(d.IntN(256))
	}
	return b
}

func (d *drawer) valuesOf(key string, g api.Tag) [2][]byte {
	name := key + " " + text([][]api.Held{of(fin(g))})
	if _, there := d.values[name]; !there {
		long := d.IntN(20)
		other := long
		if d.IntN(2) == 0 {
			other = d.IntN(20)
		}
		d.values[name] = [2][]byte{d.noise(long), d.noise(other)}
	}
	return d.values[name]
}

// fragment is most often the right one.
func (d *drawer) fragment(key string, g api.Tag, server, wrong int) []byte {
	both := d.valuesOf(key, g)
	right, _ := stripe.Cut(made(d.c), both[0], server)
	if d.IntN(100) >= wrong {
		return right
	}
	switch d.IntN(6) {
	case 0:
		other, _ := stripe.Cut(made(d.c), both[1], server)
		return other
	case 1:
		return right[:d.IntN(len(right))]
	case 2:
		return d.noise(len(right))
	default:
		return turned(right, d.IntN(len(right)))
	}
}

// tables are drawn by updates, in any order; wrong is how many of a hundred fragments are.
func (d *drawer) tables(t *testing.T, wrong int) [][]api.Held {
	t.Helper()
	tables := make([][]api.Held, d.c.N)
	for server := range tables {
		b, e := table.New(d.c.Delta)
		if e != api.OK {
			t.Fatalf("table.New is %d", int(e))
		}
		if d.IntN(8) == 0 {
			continue
		}
		for range d.IntN(3 * len(d.keys) * len(d.tags)) {
			key, g := d.keys[d.IntN(len(d.keys))], d.tags[d.IntN(len(d.tags))]
			u := api.Update{Kind: api.UFin, Key: key, Entry: api.Entry{Tag: g}}
			if d.IntN(4) > 0 {
				u.Kind, u.Entry.Data = api.UPre, d.fragment(key, g, server, wrong)
			}
			if _, e := b.Apply(u); e != api.OK {
				t.Fatalf("Apply of %v is %d", u, int(e))
			}
		}
		tables[server] = b.All()
	}
	return tables
}

// counts is how often something came.
type counts map[string]int

func (n counts) atLeast(t *testing.T, least int, names ...string) {
	t.Helper()
	for _, name := range names {
		if n[name] < least {
			t.Errorf("the test says little: %d of %s", n[name], name)
		}
	}
}

func (n counts) look(t *testing.T, c api.Config, tables [][]api.Held, all []scrub.Finding) {
	t.Helper()
	for _, f := range all {
		_, e := scrub.Value(c, tables, f.Key, f.Tag)
		n["error "+e.Error()[len("sherd: refused with "):]]++
		if len(f.Wrong) > 0 {
			n["wrong"]++
		}
		for server, table := range tables {
			if below := less(f.Tag, floorOf(table, f.Key, c.Delta)); f.Whole && !slices.Contains(f.Has, server) && below {
				n["below the floor"]++
			}
			if e, there := entryOf(table, f.Key, f.Tag); f.Whole && there && !e.Has {
				n["lacked by one that has the entry"]++
			}
		}
	}
}

// TestDrawn: tables that servers may have, with fragments of which some are wrong.
func TestDrawn(t *testing.T) {
	r := rand.New(rand.NewPCG(27, 1))
	n := counts{}
	for range 4000 {
		d := newDrawer(r)
		tables := d.tables(t, []int{0, 10, 40}[r.IntN(3)])
		all := check(t, d.c, tables)
		n.look(t, d.c, tables, all)
		for server := range d.c.N {
			n["lacks"] += d.giveWhatLacks(t, tables, server)
		}
	}
	n.atLeast(t, 100, "wrong", "error 0", "error 20", "error 23", "error 25", "error 26", "lacks", "below the floor", "lacked by one that has the entry")
	n.atLeast(t, 30, "error 24")
	t.Log(n)
}

// giveWhatLacks: each update changes something, and behind them the server has a right fragment of each whole tag that it may keep.
func (d *drawer) giveWhatLacks(t *testing.T, tables [][]api.Held, server int) int {
	t.Helper()
	us, e := scrub.Lacks(d.c, tables, server)
	if e != api.OK {
		t.Fatalf("P27.3: Lacks of %d is %d:%s", server, int(e), text(tables))
	}
	b, did := grown(t, tables[server], d.c.Delta)
	if !did {
		t.Fatalf("the test is wrong:%s", text(tables))
	}
	for _, u := range us {
		if did, e := b.Apply(u); !did || e != api.OK {
			t.Fatalf("P27.3: %v, which %d lacks, changes nothing, %d:%s", u, server, int(e), text(tables))
		}
	}
	behind := slices.Clone(tables)
	behind[server] = b.All()
	before, _ := scrub.Look(d.c, tables)
	for _, f := range before {
		value, e := scrub.Value(d.c, tables, f.Key, f.Tag)
		if !f.Whole || less(f.Tag, b.Floor(f.Key)) {
			continue
		}
		right, _ := stripe.Cut(made(d.c), value, server)
		entry, _ := b.Get(f.Key, f.Tag)
		if e != api.OK || !entry.Has || !slices.Contains(f.Has, server) && !bytes.Equal(entry.Data, right) {
			t.Fatalf("P27.3: of %q, %v server %d has %v, want %x:%s", f.Key, f.Tag, server, entry, right, text(tables))
		}
		if again, e := scrub.Value(d.c, behind, f.Key, f.Tag); e != api.OK || !bytes.Equal(again, value) {
			t.Fatalf("P27.3: behind them the value of %q, %v is %q, %d, was %q:%s", f.Key, f.Tag, again, int(e), value, text(tables))
		}
	}
	if us, e := scrub.Lacks(d.c, behind, server); len(us) != 0 || e != api.OK {
		t.Fatalf("P27.3: behind them %d still lacks %v, %d:%s", server, us, int(e), text(tables))
	}
	return len(us)
}

// spoil changes a table in one way, most often so that it may not be looked at.
func (d *drawer) spoil(table []api.Held) []api.Held {
	table = second(table)
	if len(table) == 0 {
		return of(fin(tg(0, 0)))
	}
	h := &table[d.IntN(len(table))]
	e := &h.Entries[d.IntN(len(h.Entries))]
	switch d.IntN(12) {
	case 0:
		h.Key = d.keys[d.IntN(len(d.keys))]
	case 1:
		e.Tag = d.tags[d.IntN(len(d.tags))]
	case 2:
		e.Fin = !e.Fin
	case 3:
		e.Has = !e.Has
	case 4:
		e.Data = make([]byte, 65538+d.IntN(6))
	case 5:
		h.Entries = append(h.Entries, *e)
	case 6:
		table = append(table, *h)
	case 7:
		slices.Reverse(table)
	case 8:
		slices.Reverse(h.Entries)
	case 9:
		e.Tag.Client += []int{-e.Tag.Client, 65535, 1}[d.IntN(3)]
	case 10:
		h.Entries = h.Entries[:d.IntN(len(h.Entries)+1)]
	case 11:
		h.Entries = append(h.Entries, fin(tg(1<<62-1, 65535)))
	}
	return table
}

// second is a table in memory of its own.
func second(table []api.Held) []api.Held {
	table = slices.Clone(table)
	for i, h := range table {
		table[i].Entries = slices.Clone(h.Entries)
		for j, e := range h.Entries {
			table[i].Entries[j].Data = bytes.Clone(e.Data)
		}
	}
	return table
}

// TestSpoilt: of drawn tables one is changed.
func TestSpoilt(t *testing.T) {
	r := rand.New(rand.NewPCG(27, 2))
	n := counts{}
	for range 6000 {
		d := newDrawer(r)
		tables := d.tables(t, 10)
		at := r.IntN(len(tables))
		tables[at] = d.spoil(tables[at])
		may := stands(t, tables[at], d.c.Delta)
		if may != allowed(tables[at], d.c.Delta) {
			t.Fatalf("the test is wrong: %v:%s", may, text(tables))
		}
		if may {
			n["may"]++
			check(t, d.c, tables)
			continue
		}
		n["may not"]++
		refuses(t, d.c, tables, api.ErrForm)
	}
	n.atLeast(t, 1000, "may", "may not")
	t.Log(n)
}

// TestOrderOfFindings: many keys and tags, which the tables have in parts.
func TestOrderOfFindings(t *testing.T) {
	r := rand.New(rand.NewPCG(27, 3))
	c := api.Config{N: 3, K: 1, Delta: 99}
	tables := make([][]api.Held, 3)
	for _, a := range r.Perm(256) {
		for _, key := range []string{string([]byte{byte(a)}), string([]byte{byte(a), 0}), string([]byte{'k', byte(a)})} {
			h := api.Held{Key: key}
			for count := range int64(1 + r.IntN(12)) {
				h.Entries = append(h.Entries, fin(tg(count+1, 1+r.IntN(3))))
			}
			at := r.IntN(3)
			tables[at] = append(tables[at], h)
		}
	}
	for i := range tables {
		slices.SortFunc(tables[i], func(a, b api.Held) int { return bytes.Compare([]byte(a.Key), []byte(b.Key)) })
		tables[i] = slices.CompactFunc(tables[i], func(a, b api.Held) bool { return a.Key == b.Key })
	}
	want, _ := lookOf(c, tables)
	for range 20 {
		if got, e := scrub.Look(c, tables); e != api.OK || !sameFindings(got, want) {
			t.Fatalf("P27.1: %d findings, %d, want %d, or in another order", len(got), int(e), len(want))
		}
	}
	if len(want) < 4000 {
		t.Errorf("the test says little: %d findings", len(want))
	}
}

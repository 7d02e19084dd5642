package table_test

import (
	"fmt"
	"math"
	"math/rand/v2"
	"slices"
	"strings"
	"testing"

	"sherd/api"
	"sherd/table"
)

func TestNew(t *testing.T) {
	for _, delta := range []int{-1, -2, math.MinInt, 1 << 62, 1<<62 + 1, math.MaxInt} {
		if b, e := table.New(delta); b != nil || e != api.ErrArg {
			t.Errorf("P15.1: New(%d) is %v, %d", delta, b, e)
		}
	}
	for _, delta := range []int{0, 1, 2, 1000, 1<<62 - 2, 1<<62 - 1} {
		b, _ := both(t, delta)
		if len(b.Keys()) != 0 || len(b.All()) != 0 || len(b.Updates()) != 0 {
			t.Errorf("P15.1: New(%d) has entries: %s", delta, textOfAll(b.All()))
		}
	}
}

// told: an update, and what the chapter's examples say of it.
type told struct {
	u          api.Update
	did        bool
	want       string
	top, floor api.Tag
}

func tell(t *testing.T, b *table.Table, p *paper, steps []told) {
	t.Helper()
	for _, s := range steps {
		did := do(t, b, p, s.u)
		if got := text(b.Entries("k")); did != s.did || got != s.want {
			t.Fatalf("P15.2: behind %v: %v, %s; want %v, %s", s.u, did, got, s.did, s.want)
		}
		if b.Top("k") != s.top || b.Floor("k") != s.floor {
			t.Fatalf("P15.3: behind %v Top is %v, Floor %v; want %v, %v", s.u, b.Top("k"), b.Floor("k"), s.top, s.floor)
		}
	}
}

func TestExamples(t *testing.T) {
	none := api.Tag{}
	b, p := both(t, 1)
	tell(t, b, p, []told{
		{pre("k", tg(1, 1), "a"), true, `1.1+"a"`, none, none},
		{pre("k", tg(1, 1), "b"), false, `1.1+"a"`, none, none},
		{fin("k", tg(1, 1)), true, `1.1+"a"!`, tg(1, 1), none},
		{fin("k", tg(3, 1)), true, `1.1+"a"! 3.1!`, tg(3, 1), tg(1, 1)},
		{pre("k", tg(2, 2), "c"), true, `1.1+"a"! 2.2+"c" 3.1!`, tg(3, 1), tg(1, 1)},
		{fin("k", tg(2, 1)), true, `2.1! 2.2+"c" 3.1!`, tg(3, 1), tg(2, 1)},
		{pre("k", tg(1, 1), "a"), false, `2.1! 2.2+"c" 3.1!`, tg(3, 1), tg(2, 1)},
		{fin("k", tg(1, 1)), false, `2.1! 2.2+"c" 3.1!`, tg(3, 1), tg(2, 1)},
		{pre("k", tg(2, 1), "d"), true, `2.1+"d"! 2.2+"c" 3.1!`, tg(3, 1), tg(2, 1)},
		{fin("k", tg(4, 4)), true, `3.1! 4.4!`, tg(4, 4), tg(3, 1)},
	})
	if n := b.Fragments("k"); n != 0 {
		t.Errorf("P15.3: Fragments is %d behind the third example", n)
	}
	tell(t, b, p, []told{
		{stood("k", tg(5, 1), true, "e"), true, `4.4! 5.1+"e"!`, tg(5, 1), tg(4, 4)},
		{stood("k", tg(5, 1), true, "e"), false, `4.4! 5.1+"e"!`, tg(5, 1), tg(4, 4)},
	})
}

func TestFinAheadOfPreAndBehindIt(t *testing.T) {
	for delta := range 3 {
		b, p := both(t, delta)
		c, q := both(t, delta)
		u, v := pre("k", tg(2, 2), "x"), fin("k", tg(2, 2))
		if !do(t, b, p, u) || !do(t, b, p, v) || !do(t, c, q, v) || !do(t, c, q, u) {
			t.Error("P15.2: one of both changed nothing")
		}
		if got := text(c.Entries("k")); got != `2.2+"x"!` || text(b.Entries("k")) != got {
			t.Errorf("P15.7: %s and %s", text(b.Entries("k")), got)
		}
	}
}

func TestDeltaZeroHasTheFloorAtTheTop(t *testing.T) {
	b, p := both(t, 0)
	do(t, b, p, pre("k", tg(7, 7), "x"))
	if b.Floor("k") != (api.Tag{}) {
		t.Errorf("P15.3: Floor is %v, and none is finalized", b.Floor("k"))
	}
	for _, g := range []api.Tag{tg(2, 1), tg(2, 2), tg(1, 9), tg(7, 7), tg(6, 1), tg(9, 1)} {
		do(t, b, p, fin("k", g))
		if b.Floor("k") != b.Top("k") {
			t.Errorf("P15.3: Floor is %v, Top %v, with delta 0", b.Floor("k"), b.Top("k"))
		}
	}
	if got := text(b.Entries("k")); got != "9.1!" {
		t.Errorf("P15.2: %s is left", got)
	}
}

// manyUpdates: each kind, near and beyond, each flag, and each length of the data that an edge lies at.
func manyUpdates() []api.Update {
	var us []api.Update
	for _, kind := range []int{math.MinInt, -1, 0, 1, 2, 3, 4, 5, 256 + 1, math.MaxInt} {
		for flags := range 4 {
			for _, size := range []int{0, 1, 65539, 65540, 65541, 70000} {
				u := api.Update{Kind: kind, Key: "k", Entry: api.Entry{Tag: tg(1, 1), Fin: flags&1 > 0, Has: flags&2 > 0, Data: make([]byte, size)}}
				us = append(us, u)
			}
		}
	}
	return us
}

func oddKeys() []string {
	return []string{"", "k", "\x00", strings.Repeat("k", 63), strings.Repeat("k", 64), strings.Repeat("k", 65), strings.Repeat("é", 32), strings.Repeat("é", 33), strings.Repeat("k", 1000)}
}

func oddTags() []api.Tag {
	var tags []api.Tag
	for _, count := range []int64{math.MinInt64, -1, 0, 1, 2, 1<<62 - 1, 1 << 62, math.MaxInt64} {
		for _, client := range []int{math.MinInt, -1, 0, 1, 65535, 65536, math.MaxInt} {
			tags = append(tags, tg(count, client))
		}
	}
	return tags
}

// withOthers: each of the three kinds, with each key and tag that an edge lies at.
func withOthers() []api.Update {
	var us []api.Update
	for _, u := range []api.Update{pre("k", tg(1, 1), "x"), pre("k", tg(1, 1), ""), fin("k", tg(1, 1)), stood("k", tg(1, 1), true, "x"), stood("k", tg(1, 1), false, ""), bare("k", tg(1, 1))} {
		for _, key := range oddKeys() {
			u.Key = key
			us = append(us, u)
		}
		u.Key = "k"
		for _, g := range oddTags() {
			u.Entry.Tag = g
			us = append(us, u)
		}
	}
	return us
}

func TestWhichUpdateMayBe(t *testing.T) {
	refused, done := 0, 0
	for _, u := range append(manyUpdates(), withOthers()...) {
		b, p := both(t, 1)
		full, q := both(t, 1)
		do(t, full, q, stood("k", tg(1, 1), true, "there"))
		do(t, full, q, fin("k", tg(3, 3)))
		do(t, full, q, pre("j", tg(1, 1), "there"))
		do(t, full, q, u)
		if do(t, b, p, u) {
			done++
			continue
		}
		refused++
		if e := refusalOf(b, u); e != api.ErrArg {
			t.Errorf("P15.2: %v changes nothing of an empty table, and is answered %d", u.Kind, e)
		}
	}
	if refused < 500 || done < 50 {
		t.Errorf("%d are refused, %d done: the test says little", refused, done)
	}
}

func refusalOf(b *table.Table, u api.Update) api.Errno {
	_, e := b.Apply(u)
	return e
}

func TestTheChaptersWrongUpdates(t *testing.T) {
	b, p := both(t, 1)
	do(t, b, p, pre("k", tg(1, 1), "a"))
	for _, u := range []api.Update{
		{},
		{Kind: api.UEntry, Key: "k", Entry: api.Entry{Tag: tg(5, 1)}},
		{Kind: api.UEntry, Key: "k", Entry: api.Entry{Tag: tg(5, 1), Fin: true, Data: []byte("x")}},
		{Kind: api.UPre, Key: "k", Entry: api.Entry{Tag: tg(5, 1), Has: true}},
		{Kind: api.UPre, Key: "k", Entry: api.Entry{Tag: tg(5, 1), Fin: true}},
		{Kind: api.UFin, Key: "k", Entry: api.Entry{Tag: tg(5, 1), Data: []byte("x")}},
		{Kind: api.UFin, Key: "k", Entry: api.Entry{Tag: tg(5, 1), Fin: true}},
		fin(strings.Repeat("k", 65), tg(5, 1)), fin("", tg(5, 1)), fin("k", api.Tag{}), fin("k", tg(5, 0)), fin("k", tg(0, 1)),
		pre("k", tg(5, 1), strings.Repeat("x", 65541)),
	} {
		would, e := b.Would(u)
		did, f := b.Apply(u)
		if would || did || e != api.ErrArg || f != api.ErrArg {
			t.Errorf("P15.2: %d of %q, %v: Would is %v, %d, Apply %v, %d", u.Kind, u.Key, u.Entry.Tag, would, e, did, f)
		}
		check(t, b, p, "a wrong update")
	}
	for _, u := range []api.Update{pre("k", tg(1<<62-1, 65535), strings.Repeat("x", 65540)), stood(strings.Repeat("k", 64), tg(1, 1), true, strings.Repeat("x", 65540)), pre("k", tg(5, 1), "")} {
		if !do(t, b, p, u) {
			t.Errorf("P15.2: %d of %q, %v changes nothing", u.Kind, u.Key, u.Entry.Tag)
		}
	}
	if e, ok := b.Get("k", tg(5, 1)); !ok || !e.Has || len(e.Data) != 0 {
		t.Errorf("P15.2: a fragment of no bytes is %v, %v", e, ok)
	}
}

func TestAFragmentOfNoBytesIsOne(t *testing.T) {
	b, p := both(t, 0)
	do(t, b, p, pre("k", tg(1, 1), ""))
	if do(t, b, p, pre("k", tg(1, 1), "later")) {
		t.Error("P15.2: a fragment came in the place of one of no bytes")
	}
	if b.Fragments("k") != 1 {
		t.Errorf("P15.3: Fragments is %d with one of no bytes", b.Fragments("k"))
	}
	do(t, b, p, fin("j", tg(1, 1)))
	if e, ok := b.Get("j", tg(1, 1)); !ok || e.Has || len(e.Data) != 0 || b.Fragments("j") != 0 {
		t.Errorf("P15.3: an entry without a fragment is %v, %v", e, ok)
	}
}

func TestAnEntryIsAsBothOfItsHalves(t *testing.T) {
	g := tg(2, 2)
	ahead := [][]api.Update{nil, {pre("k", g, "old")}, {fin("k", g)}, {stood("k", g, true, "old")}, {fin("k", tg(2, 1))}, {fin("k", tg(2, 3))}, {pre("k", tg(1, 1), "a"), fin("k", tg(3, 1))}}
	for delta := range 2 {
		for _, before := range ahead {
			for _, u := range []api.Update{stood("k", g, true, "new"), stood("k", g, false, "new"), bare("k", g)} {
				b, p := both(t, delta)
				for _, v := range before {
					do(t, b, p, v)
				}
				c := b.Copy()
				did, did1, did2 := do(t, b, p, u), false, false
				if u.Entry.Has {
					did1, _ = c.Apply(pre("k", g, string(u.Entry.Data)))
				}
				if u.Entry.Fin {
					did2, _ = c.Apply(fin("k", g))
				}
				if did != (did1 || did2) || !sameAll(b.All(), c.All()) {
					t.Errorf("P15.2: behind %v UEntry %v is %v and %s, its halves %v, %v and %s", before, u, did, textOfAll(b.All()), did1, did2, textOfAll(c.All()))
				}
			}
		}
	}
}

// letters: the updates of a small world: four tags, each with two fragments, a finalizing and entries.
func letters() []api.Update {
	var us []api.Update
	for _, g := range []api.Tag{tg(1, 1), tg(1, 2), tg(2, 1), tg(3, 1)} {
		us = append(us, pre("k", g, "a"), fin("k", g), stood("k", g, true, "b"))
	}
	return append(us, stood("k", tg(1, 2), false, "c"), bare("k", tg(2, 1)), fin("j", tg(1, 1)), pre("k", tg(1, 0), "a"))
}

// words goes on from a table by all words of so many letters.
func words(t *testing.T, b *table.Table, p *paper, us []api.Update, more int, count *int) {
	t.Helper()
	*count++
	if more == 0 {
		return
	}
	for _, u := range us {
		c, q := b.Copy(), p.copy()
		do(t, c, q, u)
		words(t, c, q, us, more-1, count)
	}
	check(t, b, p, "what was done to copies")
}

func TestAllWordsOfASmallWorld(t *testing.T) {
	us := letters()
	for delta := range 4 {
		t.Run(fmt.Sprintf("delta %d", delta), func(t *testing.T) {
			t.Parallel()
			b, p := both(t, delta)
			count := 0
			words(t, b, p, us, 4, &count)
			if n := len(us); count != 1+n+n*n+n*n*n+n*n*n*n {
				t.Fatalf("%d words of %d letters: the test says little", count, n)
			}
		})
	}
}

// somewhere: keys that are sorted otherwise by letters, or by runes, than by bytes.
func somewhere() []string {
	return []string{"k", "K", "k\x00", "\x00", "\xff", "é", "\xc3", "ab", "a", "aa", strings.Repeat("k", 64), "10", "9", "\U00010000", "\uffff"}
}

func chance(r *rand.Rand, keys []string, counts int64, clients int) api.Update {
	key, g := keys[r.IntN(len(keys))], tg(1+r.Int64N(counts), 1+r.IntN(clients))
	data := strings.Repeat(string(rune('a'+r.IntN(26))), r.IntN(5))
	switch r.IntN(8) {
	case 0, 1, 2:
		return pre(key, g, data)
	case 3, 4:
		return fin(key, g)
	case 5:
		return stood(key, g, true, data)
	case 6:
		return stood(key, g, false, data)
	}
	return bare(key, g)
}

func TestLongRuns(t *testing.T) {
	r := rand.New(rand.NewPCG(15, 2))
	changed, thrown := 0, 0
	for run := range 60 {
		b, p := both(t, []int{0, 1, 2, 5, 20, 1<<62 - 1}[run%6])
		keys := somewhere()[:1+r.IntN(15)]
		counts := int64(1 + r.IntN(30))
		for range 150 {
			u := chance(r, keys, counts, 1+r.IntN(4))
			before := len(b.Entries(u.Key))
			if do(t, b, p, u) {
				changed++
			}
			if len(b.Entries(u.Key)) < before {
				thrown++
			}
		}
	}
	if changed < 1000 || thrown < 100 {
		t.Errorf("%d changed something, %d threw away: the test says little", changed, thrown)
	}
}

func TestKeysAreSortedByTheirBytes(t *testing.T) {
	for range 5 { // a map's order is another each time
		b, p := both(t, 0)
		for i, key := range somewhere() {
			do(t, b, p, fin(key, tg(int64(i)+1, 1)))
		}
		want := []string{"\x00", "10", "9", "K", "a", "aa", "ab", "k", "k\x00", strings.Repeat("k", 64), "\xc3", "é", "\uffff", "\U00010000", "\xff"}
		if got := b.Keys(); !slices.Equal(got, want) {
			t.Fatalf("P15.3: Keys is %q, want %q", got, want)
		}
	}
}

func TestEntriesRiseByCountThenClient(t *testing.T) {
	b, p := both(t, 1<<62-1)
	for _, g := range []api.Tag{tg(10, 1), tg(9, 2), tg(1<<62-1, 65535), tg(1, 65535), tg(2, 1), tg(9, 1), tg(9, 10), tg(1<<62-1, 1), tg(1, 1)} {
		do(t, b, p, pre("k", g, ""))
	}
	want := `1.1+"" 1.65535+"" 2.1+"" 9.1+"" 9.2+"" 9.10+"" 10.1+"" 4611686018427387903.1+"" 4611686018427387903.65535+""`
	if got := text(b.Entries("k")); got != want {
		t.Errorf("P15.3: Entries is %s", got)
	}
}

func TestNoKeyAndNoTagAreAsked(t *testing.T) {
	b, p := both(t, 0)
	do(t, b, p, stood("k", tg(1, 1), true, "x"))
	for _, key := range append(oddKeys(), "j", "kk", "K") {
		if key == "k" {
			continue
		}
		if b.Top(key) != (api.Tag{}) || b.Floor(key) != (api.Tag{}) || len(b.Entries(key)) != 0 || b.Fragments(key) != 0 {
			t.Errorf("P15.3: %q has %v, %v, %s, %d", key, b.Top(key), b.Floor(key), text(b.Entries(key)), b.Fragments(key))
		}
		if e, ok := b.Get(key, tg(1, 1)); ok || !sameEntry(e, api.Entry{}) {
			t.Errorf("P15.3: Get(%q) is %v, %v", key, e, ok)
		}
	}
	for _, g := range append(oddTags(), api.Tag{}) {
		if e, ok := b.Get("k", g); ok != (g == tg(1, 1)) || !ok && !sameEntry(e, api.Entry{}) {
			t.Errorf("P15.3: Get of %v is %v, %v", g, e, ok)
		}
	}
	check(t, b, p, "questions")
}

func TestOneKeySeesNothingOfAnother(t *testing.T) {
	b, p := both(t, 0)
	do(t, b, p, pre("a", tg(1, 1), "x"))
	do(t, b, p, pre("b", tg(1, 1), "y"))
	do(t, b, p, fin("b", tg(9, 9)))
	if got := textOfAll(b.All()); got != `"a": 1.1+"x"; "b": 9.9!; ` {
		t.Errorf("P15.2: %s", got)
	}
}

func TestUpdatesMakeTheSameTable(t *testing.T) {
	r := rand.New(rand.NewPCG(15, 4))
	most := 0
	for run := range 200 {
		delta := []int{0, 1, 2, 7, 1<<62 - 1}[run%5]
		b, p := both(t, delta)
		for range 40 {
			u := chance(r, somewhere()[:4], 9, 3)
			b.Apply(u)
			p.do(u)
		}
		c, q := both(t, delta)
		us := b.Updates()
		for _, u := range us {
			if u.Kind != api.UEntry || !do(t, c, q, u) {
				t.Fatalf("P15.4: %v of %v changes nothing", u, us)
			}
		}
		if !sameAll(b.All(), c.All()) {
			t.Fatalf("P15.4: from %s came %s", textOfAll(b.All()), textOfAll(c.All()))
		}
		check(t, b, p, "Updates")
		most = max(most, len(us))
	}
	if most < 30 {
		t.Errorf("at most %d updates: the test says little", most)
	}
}

// parts: updates of which all that bring a fragment of a tag bring the same one.
func parts(r *rand.Rand, size int) []api.Update {
	var us []api.Update
	for range size {
		u := chance(r, []string{"k", "j"}[:1+r.IntN(2)], 5, 2)
		if u.Kind == api.UPre || u.Entry.Has {
			u.Entry.Data = fmt.Appendf(nil, "%s%d.%d", u.Key, u.Entry.Tag.Count, u.Entry.Tag.Client)
		}
		us = append(us, u)
	}
	return us
}

// checkSum is P15.7 for one order.
func checkSum(t *testing.T, delta int, us []api.Update, want []api.Held) {
	t.Helper()
	b, e := table.New(delta)
	if e != api.OK {
		t.Fatal(e)
	}
	for _, u := range us {
		if _, e := b.Apply(u); e != api.OK {
			t.Fatalf("P15.2: Apply(%v) is %d", u, e)
		}
	}
	if got := b.All(); !sameAll(got, want) {
		t.Fatalf("P15.7: delta %d, behind %v there is %s, want %s", delta, us, textOfAll(got), textOfAll(want))
	}
	checkHolds(t, b, delta, us)
}

// orders goes through all orders of us from the place at on.
func orders(us []api.Update, at int, yield func()) {
	if at == len(us) {
		yield()
		return
	}
	for i := at; i < len(us); i++ {
		us[at], us[i] = us[i], us[at]
		orders(us, at+1, yield)
		us[at], us[i] = us[i], us[at]
	}
}

func TestNoOrderMatters(t *testing.T) {
	r := rand.New(rand.NewPCG(15, 7))
	count := 0
	for run := range 120 {
		us := parts(r, 5+r.IntN(2))
		delta := run % 4
		want := summed(delta, us)
		orders(us, 0, func() {
			count++
			checkSum(t, delta, us, want)
		})
	}
	if count < 20000 {
		t.Errorf("%d orders: the test says little", count)
	}
}

func TestNoRepetitionMatters(t *testing.T) {
	r := rand.New(rand.NewPCG(15, 8))
	for run := range 400 {
		us := parts(r, 40)
		delta := run % 6
		want := summed(delta, us)
		for range 5 {
			many := slices.Clone(us)
			for range r.IntN(60) {
				many = append(many, us[r.IntN(len(us))])
			}
			r.Shuffle(len(many), func(i, j int) { many[i], many[j] = many[j], many[i] })
			checkSum(t, delta, many, want)
		}
		checkSum(t, delta, append(slices.Clone(us), us...), want)
	}
}

func TestGreatDelta(t *testing.T) {
	for _, delta := range []int{1<<62 - 1, 1 << 61, 4999, 5000} {
		b, e := table.New(delta)
		if e != api.OK {
			t.Fatal(e)
		}
		for i := range 5000 {
			if did, e := b.Apply(stood("k", tg(int64(i)*7%5000+1, 1), true, "x")); !did || e != api.OK {
				t.Fatalf("P15.2: the %d-th is %v, %d", i, did, e)
			}
		}
		want := api.Tag{}
		if delta == 4999 {
			want = tg(1, 1)
		}
		if b.Floor("k") != want || b.Top("k") != tg(5000, 1) || b.Fragments("k") != 5000 {
			t.Errorf("P15.3: delta %d: Floor %v, Top %v, %d fragments", delta, b.Floor("k"), b.Top("k"), b.Fragments("k"))
		}
		b.Apply(fin("k", tg(6000, 1)))
		left := 5000
		if delta == 4999 {
			left--
		}
		if b.Fragments("k") != left || len(b.Entries("k")) != left+1 {
			t.Errorf("P15.6: delta %d: %d fragments of %d entries", delta, b.Fragments("k"), len(b.Entries("k")))
		}
	}
}

func TestManyTagsGoAtOnce(t *testing.T) {
	b, p := both(t, 1)
	for i := range 500 {
		u := pre("k", tg(int64(i)+1, 1), "x")
		b.Apply(u)
		p.do(u)
	}
	do(t, b, p, fin("k", tg(600, 1)))
	if n := b.Fragments("k"); n != 500 {
		t.Errorf("P15.2: %d are left, and the floor is the initial tag", n)
	}
	do(t, b, p, fin("k", tg(500, 1)))
	if got := text(b.Entries("k")); got != `500.1+"x"! 600.1!` {
		t.Errorf("P15.2: %s is left", got)
	}
}

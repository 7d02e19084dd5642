package scrub_test

import (
	"fmt"
	"math"
	"slices"
	"strings"
	"testing"

	"sherd/api"
	"sherd/scrub"
	"sherd/stripe"
)

var four = api.Config{N: 4, K: 2}

// split is the fragments of a value.
func split(t *testing.T, c api.Config, value string) [][]byte {
	t.Helper()
	fragments, e := stripe.Split(made(c), []byte(value))
	if e != api.OK {
		t.Fatalf("Split is %d", int(e))
	}
	return fragments
}

// pre is an entry with a fragment, both one that is finalized too, fin one that is only that.
func pre(g api.Tag, data []byte) api.Entry {
	return api.Entry{Tag: g, Has: true, Data: slices.Clone(data)}
}

func both(g api.Tag, data []byte) api.Entry {
	return api.Entry{Tag: g, Has: true, Fin: true, Data: slices.Clone(data)}
}

func fin(g api.Tag) api.Entry { return api.Entry{Tag: g, Fin: true} }

func held(key string, entries ...api.Entry) api.Held { return api.Held{Key: key, Entries: entries} }

// of is a table of the key k.
func of(entries ...api.Entry) []api.Held { return []api.Held{held("k", entries...)} }

func turned(data []byte, place int) []byte {
	data = slices.Clone(data)
	data[place] ^= 1
	return data
}

// TestExamples: those of the chapter, told as it tells them.
func TestExamples(t *testing.T) {
	f := split(t, four, "hello")
	one, two := tg(1, 1), tg(2, 1)
	for _, x := range []struct {
		name   string
		tables [][]api.Held
		look   string
		value  string
		e      api.Errno
		lacks  [4]string // the fragments that each server lacks, with their tags
	}{
		{"1", [][]api.Held{of(both(one, f[0])), of(pre(one, f[1])), nil, of(pre(one, f[3]))},
			"k 1.1 [0 1 3] [0] true [];", "hello", api.OK, [4]string{2: fmt.Sprintf("k 1.1 %x;", f[2])}},
		{"2", [][]api.Held{of(pre(one, f[0])), nil, nil, nil},
			"k 1.1 [0] [] false [];", "", api.ErrFew, [4]string{}},
		{"3, four", [][]api.Held{of(pre(one, f[0])), of(pre(one, turned(f[1], 4))), of(pre(one, f[2])), of(pre(one, f[3]))},
			"k 1.1 [0 1 2 3] [] true [1];", "hello", api.OK, [4]string{}},
		{"3, three", [][]api.Held{of(pre(one, f[0])), of(pre(one, turned(f[1], 4))), nil, of(pre(one, f[3]))},
			"k 1.1 [0 1 3] [] false [];", "", api.ErrWrong, [4]string{}},
		{"4", [][]api.Held{of(both(one, f[0])), of(pre(one, f[1])), of(fin(two)), nil},
			"k 1.1 [0 1] [0] true [];k 2.1 [] [2] false [];", "hello", api.OK, [4]string{3: fmt.Sprintf("k 1.1 %x;", f[3])}},
		{"none", make([][]api.Held, 4), "", "", api.ErrNone, [4]string{}},
		{"none, but not nil", [][]api.Held{{}, {}, {}, {}}, "", "", api.ErrNone, [4]string{}},
	} {
		all, e := scrub.Look(four, x.tables)
		look := ""
		for _, g := range all {
			look += fmt.Sprintf("%s %d.%d %v %v %v %v;", g.Key, g.Tag.Count, g.Tag.Client, g.Has, g.Fin, g.Whole, g.Wrong)
		}
		if look != x.look || e != api.OK {
			t.Errorf("P27.1: example %s: Look is %s, %d, want %s", x.name, look, int(e), x.look)
		}
		if value, e := scrub.Value(four, x.tables, "k", one); string(value) != x.value || e != x.e {
			t.Errorf("P27.2: example %s: Value is %q, %d, want %q, %d", x.name, value, int(e), x.value, int(x.e))
		}
		for i, want := range x.lacks {
			us, e := scrub.Lacks(four, x.tables, i)
			got := ""
			for _, u := range us {
				got += fmt.Sprintf("%s %d.%d %x;", u.Key, u.Entry.Tag.Count, u.Entry.Tag.Client, u.Entry.Data)
				if u.Kind != api.UPre || u.Entry.Fin || u.Entry.Has {
					t.Errorf("P27.3: example %s: server %d lacks %v", x.name, i, u)
				}
			}
			if got != want || e != api.OK {
				t.Errorf("P27.3: example %s: Lacks of %d is %s, %d, want %s", x.name, i, got, int(e), want)
			}
		}
		check(t, four, x.tables)
	}
}

// refuses tells what all three calls answer: of a key and a server too that are not there.
func refuses(t *testing.T, c api.Config, tables [][]api.Held, want api.Errno) {
	t.Helper()
	if all, e := scrub.Look(c, tables); e != want || want != api.OK && all != nil {
		t.Errorf("P27.1: %+v: Look is %v, %d, want %d:%s", c, all, int(e), int(want), text(tables))
	}
	for _, key := range []string{"k", "none", ""} {
		value, e := scrub.Value(c, tables, key, tg(1, 1))
		if want != api.OK && (e != want || value != nil) || want == api.OK && (e == api.ErrConfig || e == api.ErrShape || e == api.ErrForm) {
			t.Errorf("P27.2: %+v: Value is %q, %d, want %d:%s", c, value, int(e), int(want), text(tables))
		}
	}
	for _, server := range []int{math.MinInt, -1, 0, c.N - 1, c.N, 255, math.MaxInt} {
		us, e := scrub.Lacks(c, tables, server)
		wants := want
		if want == api.OK && (server < 0 || server >= c.N) {
			wants = api.ErrNode
		}
		if e != wants || wants != api.OK && us != nil {
			t.Errorf("P27.3: %+v: Lacks of %d is %v, %d, want %d:%s", c, server, us, int(e), int(wants), text(tables))
		}
	}
}

func TestConfigAndShape(t *testing.T) {
	bad := of(api.Entry{})
	for _, x := range []struct {
		c api.Config
		e api.Errno
	}{
		{api.Config{}, api.ErrConfig}, {api.Config{N: 3}, api.ErrConfig}, {api.Config{N: 3, K: 4}, api.ErrConfig}, {api.Config{N: 256, K: 1}, api.ErrConfig},
		{api.Config{N: 3, K: 1, Delta: -1}, api.ErrConfig}, {api.Config{N: 3, K: 1, Delta: 1 << 62}, api.ErrConfig}, {api.Config{N: 3, K: -1}, api.ErrConfig}, {api.Config{N: -3, K: -4}, api.ErrConfig},
		{api.Config{N: math.MinInt, K: math.MinInt, Delta: math.MinInt}, api.ErrConfig}, {api.Config{N: math.MaxInt, K: 1, Delta: math.MaxInt}, api.ErrConfig},
		{api.Config{N: 1, K: 1}, api.OK}, {api.Config{N: 3, K: 3}, api.OK}, {api.Config{N: 255, K: 255}, api.OK}, {api.Config{N: 255, K: 1}, api.OK}, {api.Config{N: 1, K: 1, Delta: 1<<62 - 1}, api.OK},
	} {
		for _, n := range []int{0, 1, 2, 3, 4, 254, 255, 256} {
			tables := make([][]api.Held, n)
			want := x.e
			if want == api.OK && n != x.c.N {
				want = api.ErrShape
			}
			refuses(t, x.c, tables, want)
			if n == 0 {
				refuses(t, x.c, nil, want)
				continue
			}
			for _, at := range []int{0, n - 1} { // the first that applies, though a table may not be
				tables := make([][]api.Held, n)
				tables[at] = bad
				if want == api.OK {
					refuses(t, x.c, tables, api.ErrForm)
				} else {
					refuses(t, x.c, tables, want)
				}
			}
		}
	}
}

// variant is a table, and whether it may be looked at with this Delta.
type variant struct {
	name  string
	delta int
	table []api.Held
	may   bool
}

func variantsOfKeys() []variant {
	e := fin(tg(1, 1))
	long := strings.Repeat("k", 64)
	return []variant{
		{"no key", 0, nil, true},
		{"a key of 1 byte", 0, []api.Held{held("k", e)}, true},
		{"a key of 64 bytes", 0, []api.Held{held(long, e)}, true},
		{"a key of 65 bytes", 0, []api.Held{held(long+"k", e)}, false},
		{"a key of 65 bytes behind another", 0, []api.Held{held("j", e), held(long+"k", e)}, false},
		{"a key of many bytes", 0, []api.Held{held(strings.Repeat("k", 100000), e)}, false},
		{"a key of no bytes", 0, []api.Held{held("", e)}, false},
		{"a key of no bytes ahead of another", 0, []api.Held{held("", e), held("k", e)}, false},
		{"keys of any bytes", 0, []api.Held{held("\x00", e), held("\x00\x00", e), held("\n", e), held("\xc3\xa9", e), held("\xff", e), held("\xff\x00", e)}, true},
		{"64 bytes that are fewer runes", 0, []api.Held{held(strings.Repeat("\u20ac", 21)+"k", e)}, true},
		{"33 runes of 66 bytes", 0, []api.Held{held(strings.Repeat("\u00e9", 33), e)}, false},
		{"a key twice", 0, []api.Held{held("k", e), held("k", fin(tg(2, 1)))}, false},
		{"a key twice, not side by side", 0, []api.Held{held("j", e), held("k", e), held("j", e)}, false},
		{"keys that fall", 0, []api.Held{held("l", e), held("k", e)}, false},
		{"keys that fall by their length", 0, []api.Held{held("kk", e), held("k", e)}, false},
		{"keys that rise by their bytes, not by their lengths", 0, []api.Held{held("kk", e), held("l", e)}, true},
		{"the last two keys fall", 0, []api.Held{held("a", e), held("b", e), held("d", e), held("c", e)}, false},
		{"keys that fall in bytes above 127", 0, []api.Held{held("\xff", e), held("\x7f", e)}, false},
		{"keys that rise in bytes above 127", 0, []api.Held{held("\x7f", e), held("\x80", e)}, true},
		{"a key without entries", 0, []api.Held{held("k")}, false},
		{"a key with a list of no entries", 0, []api.Held{{Key: "k", Entries: []api.Entry{}}}, false},
		{"a key without entries behind another", 0, []api.Held{held("k", e), held("l")}, false},
		{"the same tag of two keys", 0, []api.Held{held("k", e), held("l", e)}, true},
		{"a finalized tag of each of two keys", 0, []api.Held{held("k", fin(tg(2, 1))), held("l", fin(tg(1, 1)))}, true},
	}
}

func variantsOfEntries() []variant {
	g := tg(1, 1)
	most := make([]byte, 65540)
	var all []variant
	add := func(name string, e api.Entry, may bool) {
		all = append(all, variant{name, 0, of(e), may})
		all = append(all, variant{name + ", ahead of another key", 0, []api.Held{held("k", e), held("l", fin(tg(1, 1)))}, may})
		all = append(all, variant{name + ", behind another key", 0, []api.Held{held("a", fin(tg(1, 1))), held("k", e)}, may})
	}
	add("a fragment", pre(g, []byte("x")), true)
	add("a fragment of no bytes", pre(g, nil), true)
	add("a fragment of no bytes, not nil", api.Entry{Tag: g, Has: true, Data: []byte{}}, true)
	add("finalized", fin(g), true)
	add("finalized, with data of no bytes", api.Entry{Tag: g, Fin: true, Data: []byte{}}, true)
	add("both", both(g, []byte("x")), true)
	add("neither", api.Entry{Tag: g}, false)
	add("neither, with data", api.Entry{Tag: g, Data: []byte("x")}, false)
	add("finalized, with data but no fragment", api.Entry{Tag: g, Fin: true, Data: []byte("x")}, false)
	add("a fragment of 65540 bytes", pre(g, most), true)
	add("both, of 65540 bytes", both(g, most), true)
	add("a fragment of 65541 bytes", pre(g, append(most, 0)), false)
	add("both, of 65541 bytes", both(g, append(most, 0)), false)
	for _, x := range []struct {
		g   api.Tag
		may bool
	}{
		{tg(0, 0), false}, {tg(0, 1), false}, {tg(1, 0), false}, {tg(-1, 1), false}, {tg(1, -1), false}, {tg(1, 65536), false}, {tg(1<<62, 1), false}, {tg(math.MinInt64, 1), false}, {tg(math.MaxInt64, 1), false},
		{tg(1, 65535), true}, {tg(1<<62-1, 1), true}, {tg(1<<62-1, 65535), true}, {tg(7, 7), true},
	} {
		add(fmt.Sprintf("the tag %v, finalized", x.g), fin(x.g), x.may)
		add(fmt.Sprintf("the tag %v, with a fragment", x.g), pre(x.g, []byte("x")), x.may)
	}
	return all
}

func variantsOfTags() []variant {
	x := []byte("x")
	return []variant{
		{"rising by counts", 0, of(pre(tg(1, 2), x), pre(tg(2, 1), x)), true},
		{"rising by clients", 0, of(pre(tg(1, 1), x), pre(tg(1, 2), x)), true},
		{"falling by counts", 0, of(pre(tg(2, 1), x), pre(tg(1, 2), x)), false},
		{"falling by clients", 0, of(pre(tg(1, 2), x), pre(tg(1, 1), x)), false},
		{"a tag twice", 0, of(pre(tg(1, 1), x), pre(tg(1, 1), x)), false},
		{"a tag twice, first finalized, then with a fragment", 9, of(fin(tg(1, 1)), pre(tg(1, 1), x)), false},
		{"the last two fall", 0, of(pre(tg(1, 1), x), pre(tg(2, 1), x), pre(tg(4, 1), x), pre(tg(3, 1), x)), false},
		{"a wrong one in the midst", 0, of(pre(tg(1, 1), x), api.Entry{Tag: tg(2, 1)}, pre(tg(3, 1), x)), false},
		{"a wrong one at the end", 0, of(pre(tg(1, 1), x), api.Entry{Tag: tg(2, 1), Data: x}), false},
		{"the initial one ahead", 0, of(fin(tg(0, 0)), pre(tg(1, 1), x)), false},
	}
}

func variantsOfFloors() []variant {
	x := []byte("x")
	a, b, c, d := tg(1, 1), tg(1, 2), tg(2, 1), tg(3, 1)
	return []variant{
		{"one of one", 0, of(fin(a)), true},
		{"two of one", 0, of(fin(a), fin(b)), false},
		{"one of one, others above", 0, of(fin(a), pre(b, x), pre(c, x)), true},
		{"one of one, one below", 0, of(pre(a, x), fin(b)), false},
		{"one of one, with a fragment, one below", 0, of(pre(a, x), both(b, x)), false},
		{"one of one, one below and one above", 0, of(pre(a, x), fin(b), pre(c, x)), false},
		{"none of one", 0, of(pre(a, x), pre(b, x), pre(c, x)), true},
		{"one of two, one below", 1, of(pre(a, x), fin(b)), true},
		{"one of two, below and above", 1, of(pre(a, x), fin(b), pre(c, x)), true},
		{"two of two", 1, of(fin(a), both(b, x)), true},
		{"two of two, one between", 1, of(fin(a), pre(b, x), fin(c)), true},
		{"two of two, one above", 1, of(fin(a), fin(b), pre(c, x)), true},
		{"two of two, one below", 1, of(pre(a, x), fin(b), fin(c)), false},
		{"two of two, one between and one below", 1, of(pre(a, x), fin(b), pre(c, x), fin(d)), false},
		{"three of two", 1, of(fin(a), fin(b), fin(c)), false},
		{"three of two, one between", 1, of(fin(a), fin(b), pre(c, x), fin(d)), false},
		{"two of three, one below", 2, of(pre(a, x), fin(b), fin(c)), true},
		{"three of three", 2, of(fin(a), fin(b), fin(c), pre(d, x)), true},
		{"three of three, one below", 2, of(pre(a, x), fin(b), fin(c), fin(d)), false},
		{"four of as many as may be", 1<<62 - 1, of(fin(a), fin(b), fin(c), fin(d)), true},
		{"three of as many as may be, one below", 1<<62 - 1, of(pre(a, x), fin(b), fin(c), fin(d)), true},
		{"two of one, of the second key", 0, []api.Held{held("j", fin(a)), held("k", fin(a), fin(b))}, false},
		{"one of one of each of two keys, one below at the second", 0, []api.Held{held("j", fin(a)), held("k", pre(a, x), fin(b))}, false},
		{"of two keys two of one together", 0, []api.Held{held("j", fin(a)), held("k", fin(b))}, true},
	}
}

// TestWhatMayBeLookedAt: each variant at each place among the tables.
func TestWhatMayBeLookedAt(t *testing.T) {
	good := []api.Held{held("g", pre(tg(1, 1), []byte("x")), pre(tg(2, 1), []byte("y"))), held("k", pre(tg(1, 1), []byte("z")))}
	for _, x := range slices.Concat(variantsOfKeys(), variantsOfEntries(), variantsOfTags(), variantsOfFloors()) {
		if allowed(x.table, x.delta) != x.may || stands(t, x.table, x.delta) != x.may {
			t.Errorf("the test is wrong: %s", x.name)
		}
		for n := 1; n <= 3; n++ {
			for at := range n {
				tables := make([][]api.Held, n)
				for i := range tables {
					tables[i] = good
				}
				tables[at] = x.table
				want := api.OK
				if !x.may {
					want = api.ErrForm
				}
				refuses(t, api.Config{N: n, K: 1 + at, Delta: x.delta}, tables, want)
			}
		}
		if t.Failed() {
			t.Fatalf("P27.1: %s", x.name)
		}
	}
}

// TestNode: behind the other errors, whatever the number.
func TestNode(t *testing.T) {
	for _, n := range []int{1, 2, 255} {
		c := api.Config{N: n, K: 1}
		tables := make([][]api.Held, n)
		tables[0] = of(both(tg(1, 1), split(t, c, "x")[0]))
		for _, server := range []int{math.MinInt, -n, -1, n, n + 1, 255, 256, 1 << 32, math.MaxInt} {
			if us, e := scrub.Lacks(c, tables, server); us != nil || e != api.ErrNode {
				t.Errorf("P27.3: of %d servers Lacks of %d is %v, %d", n, server, us, int(e))
			}
		}
		for server := range n {
			want := 1
			if server == 0 {
				want = 0
			}
			if us, e := scrub.Lacks(c, tables, server); len(us) != want || e != api.OK {
				t.Errorf("P27.3: of %d servers Lacks of %d is %v, %d", n, server, us, int(e))
			}
		}
	}
}

// TestNone: tags and keys beside those that are there.
func TestNone(t *testing.T) {
	f := split(t, four, "hello")
	tables := [][]api.Held{nil, of(fin(tg(5, 5))), of(pre(tg(5, 6), f[2])), {held("j", pre(tg(4, 4), f[3]))}}
	for _, x := range []struct {
		key string
		g   api.Tag
		e   api.Errno
	}{
		{"k", tg(5, 5), api.ErrFew}, {"k", tg(5, 6), api.ErrFew}, {"j", tg(4, 4), api.ErrFew},
		{"k", tg(4, 4), api.ErrNone}, {"j", tg(5, 5), api.ErrNone}, {"k", tg(5, 4), api.ErrNone}, {"k", tg(5, 7), api.ErrNone}, {"k", tg(4, 5), api.ErrNone}, {"k", tg(6, 5), api.ErrNone},
		{"k", tg(0, 0), api.ErrNone}, {"k", tg(math.MinInt64, math.MinInt), api.ErrNone}, {"k", tg(math.MaxInt64, math.MaxInt), api.ErrNone}, {"k", tg(5, 5+1<<32), api.ErrNone},
		{"", tg(5, 5), api.ErrNone}, {"K", tg(5, 5), api.ErrNone}, {"kk", tg(5, 5), api.ErrNone}, {"k\x00", tg(5, 5), api.ErrNone}, {strings.Repeat("k", 65), tg(5, 5), api.ErrNone}, {strings.Repeat("k", 1<<20), tg(5, 5), api.ErrNone},
	} {
		if value, e := scrub.Value(four, tables, x.key, x.g); value != nil || e != x.e {
			t.Errorf("P27.2: Value of %.9q, %v is %q, %d, want %d", x.key, x.g, value, int(e), int(x.e))
		}
	}
}

// TestErrorsOfMend: each error that stripe.Mend can have of such parts is Value's, and the finding is not Whole.
func TestErrorsOfMend(t *testing.T) {
	f, long := split(t, four, "hello"), split(t, four, "hello, you")
	g := tg(1, 1)
	for _, x := range []struct {
		name   string
		tables [][]api.Held
		e      api.Errno
	}{
		{"no fragment", [][]api.Held{of(fin(g)), of(fin(g)), of(fin(g)), of(fin(g))}, api.ErrFew},
		{"one", [][]api.Held{nil, of(fin(g)), of(pre(g, f[2])), nil}, api.ErrFew},
		{"two of unlike lengths", [][]api.Held{of(pre(g, f[0])), of(pre(g, long[1])), nil, nil}, api.ErrSize},
		{"three right ones, one longer", [][]api.Held{of(pre(g, f[0])), of(pre(g, f[1])), of(pre(g, f[2])), of(pre(g, append(f[3], 0)))}, api.ErrSize},
		{"two of no bytes", [][]api.Held{of(pre(g, nil)), of(pre(g, nil)), nil, nil}, api.ErrSize},
		{"two of one byte", [][]api.Held{of(pre(g, []byte{0})), nil, of(pre(g, []byte{0})), nil}, api.ErrSize},
		{"two that are too long for K", [][]api.Held{of(pre(g, make([]byte, 32771))), nil, of(pre(g, make([]byte, 32771))), nil}, api.ErrSize},
		{"a length that doesn't fit", [][]api.Held{of(pre(g, turned(f[0], 0))), of(pre(g, f[1])), nil, nil}, api.ErrLength},
		{"a length that is far too great", [][]api.Held{of(pre(g, turned(f[0], 3))), of(pre(g, f[1])), nil, nil}, api.ErrLength},
		{"what should be zero isn't", [][]api.Held{of(pre(g, f[0])), of(pre(g, turned(f[1], 4))), nil, nil}, api.ErrPad},
		{"three, one wrong", [][]api.Held{of(pre(g, f[0])), nil, of(pre(g, turned(f[2], 1))), of(pre(g, f[3]))}, api.ErrWrong},
		{"four, two wrong", [][]api.Held{of(pre(g, turned(f[0], 3))), of(pre(g, f[1])), of(pre(g, turned(f[2], 1))), of(pre(g, f[3]))}, api.ErrWrong},
	} {
		value, e := scrub.Value(four, x.tables, "k", g)
		if e != x.e || value != nil {
			t.Errorf("P27.2: %s: Value is %q, %d, want %d", x.name, value, int(e), int(x.e))
		}
		all, _ := scrub.Look(four, x.tables)
		if len(all) != 1 || all[0].Whole || len(all[0].Wrong) != 0 {
			t.Errorf("P27.1: %s: Look is %+v", x.name, all)
		}
		for server := range 4 {
			us, e := scrub.Lacks(four, x.tables, server)
			if e != api.OK || len(us) > 0 {
				t.Errorf("P27.3: %s: Lacks of %d is %v, %d", x.name, server, us, int(e))
			}
		}
		check(t, four, x.tables)
	}
}

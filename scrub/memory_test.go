package scrub_test

import (
	"bytes"
	"slices"
	"sync"
	"testing"

	"sherd/api"
	"sherd/scrub"
)

// room is a list with spare room in which something stands.
func room[T any](list []T, spare ...T) []T {
	return append(slices.Clone(list), spare...)[:len(list)]
}

func roomyTable(table []api.Held) []api.Held {
	table = slices.Clone(table)
	for i, h := range table {
		es := slices.Clone(h.Entries)
		for j, e := range es {
			es[j].Data = room(e.Data, 0xee, 0xed, 0xec, 0xeb)
		}
		table[i].Entries = room(es, pre(tg(7, 7), []byte("room")), fin(tg(8, 8)))
	}
	return room(table, held("room", fin(tg(9, 9))), held("roomy", pre(tg(9, 9), []byte("more"))))
}

// roomy is tables of which all lists have spare room: a tag with a wrong fragment, whole ones, of which two have the same value, one below a floor, ones that can't be made, with more servers that have them finalized than have a fragment.
func roomy(t *testing.T) (api.Config, [][]api.Held) {
	t.Helper()
	c := api.Config{N: 5, K: 2}
	a, b, long := split(t, c, "hello"), split(t, c, "other"), split(t, c, "a longer one, of many more bytes")
	none := split(t, c, "")
	tables := [][]api.Held{
		{held("j", both(tg(1, 1), long[0])), held("k", pre(tg(1, 1), a[0]), pre(tg(2, 1), b[0])), held("l", fin(tg(1, 1)))},
		{held("j", both(tg(1, 1), long[1])), held("k", both(tg(1, 1), turned(a[1], 2)), pre(tg(3, 1), none[1])), held("l", fin(tg(1, 1)))},
		{held("k", both(tg(1, 1), a[2]), pre(tg(2, 1), b[2]), pre(tg(3, 1), none[2]), pre(tg(5, 1), none[2])), held("l", both(tg(1, 1), a[2]))},
		{held("k", pre(tg(1, 1), a[3]), pre(tg(4, 1), b[3]), pre(tg(5, 1), none[3]))},
		{held("j", fin(tg(1, 1))), held("k", fin(tg(2, 1)))},
	}
	for i := range tables {
		tables[i] = roomyTable(tables[i])
	}
	return c, room(tables, of(fin(tg(1, 1))), nil)
}

// deep is all of the tables, and of their spare room, in memory of its own.
func deep(tables [][]api.Held) [][]api.Held {
	all := slices.Clone(tables[:cap(tables)])
	for i, table := range all {
		all[i] = slices.Clone(table[:cap(table)])
		for j, h := range all[i] {
			es := slices.Clone(h.Entries[:cap(h.Entries)])
			for k, e := range es {
				es[k].Data = bytes.Clone(e.Data[:cap(e.Data)])
			}
			all[i][j].Entries = es
		}
	}
	return all
}

func sameTables(a, b [][]api.Held) bool { return slices.EqualFunc(a, b, sameTable) }

// answers is what all calls tell of the tables.
type answers struct {
	all    []scrub.Finding
	values [][]byte
	lacks  [][]api.Update
}

func ask(c api.Config, tables [][]api.Held) answers {
	var a answers
	a.all, _ = scrub.Look(c, tables)
	for _, f := range a.all {
		value, _ := scrub.Value(c, tables, f.Key, f.Tag)
		a.values = append(a.values, value)
	}
	for server := -1; server <= c.N; server++ {
		us, _ := scrub.Lacks(c, tables, server)
		a.lacks = append(a.lacks, us)
	}
	return a
}

func same(a, b answers) bool {
	return sameFindings(a.all, b.all) && slices.EqualFunc(a.values, b.values, bytes.Equal) && slices.EqualFunc(a.lacks, b.lacks, sameUpdates)
}

// lists is each list of numbers and of bytes in an answer, as something that can be written over and looked at.
func (a answers) lists() (numbers [][]int, data [][]byte) {
	for _, f := range a.all {
		numbers = append(numbers, f.Has, f.Fin, f.Wrong)
	}
	data = append(data, a.values...)
	for _, us := range a.lacks {
		for _, u := range us {
			data = append(data, u.Entry.Data)
		}
	}
	return numbers, data
}

// fill writes over a list, and its spare room.
func fill[T any](list []T, with T) {
	list = list[:cap(list)]
	for i := range list {
		list[i] = with
	}
}

func full[T comparable](list []T, with T) bool {
	return !slices.ContainsFunc(list[:cap(list)], func(x T) bool { return x != with })
}

// spoilAll writes over all that was handed in.
func spoilAll(tables [][]api.Held) {
	for _, table := range tables[:cap(tables)] {
		for _, h := range table[:cap(table)] {
			for _, e := range h.Entries[:cap(h.Entries)] {
				fill(e.Data, 0xaa)
			}
			fill(h.Entries, api.Entry{Tag: tg(-1, -1), Has: true, Fin: true})
		}
		fill(table, api.Held{Key: "spoilt"})
	}
	fill(tables, nil)
}

func TestWhatIsGivenIsNotChanged(t *testing.T) {
	c, tables := roomy(t)
	before := deep(tables)
	a := ask(c, tables)
	if len(a.all) != 7 || !slices.Equal(a.all[1].Wrong, []int{1}) || len(a.lacks[5]) != 4 {
		t.Fatalf("the test says little: %+v", a)
	}
	ask(api.Config{N: 5, K: 5, Delta: 3}, tables)
	ask(api.Config{N: 5, K: 9}, tables)
	ask(api.Config{N: 4, K: 1}, tables)
	bad := room(tables, of())
	bad[4] = of(fin(tg(2, 1)), fin(tg(1, 1)))
	ask(c, bad)
	if !sameTables(deep(tables), before) {
		t.Errorf("P27.6: what was handed in was changed:%s", text(deep(tables)))
	}
}

// TestWhatIsToldIsNewMemory: who writes into an answer writes into nothing else.
func TestWhatIsToldIsNewMemory(t *testing.T) {
	c, tables := roomy(t)
	before := deep(tables)
	want, again, a := ask(c, tables), ask(c, tables), ask(c, tables)
	numbers, data := a.lists()
	for i, list := range numbers {
		fill(list, i+1000)
	}
	for i, list := range data {
		fill(list, byte(i+1))
	}
	for i, list := range numbers {
		if !full(list, i+1000) {
			t.Errorf("P27.6: list %d of the findings shares memory with another", i)
		}
	}
	for i, list := range data {
		if !full(list, byte(i+1)) {
			t.Errorf("P27.6: bytes %d of what is told share memory with others", i)
		}
	}
	fill(a.all, scrub.Finding{})
	for _, us := range a.lacks {
		fill(us, api.Update{})
	}
	if !sameTables(deep(tables), before) {
		t.Errorf("P27.6: what is told shares memory with what was handed in:%s", text(deep(tables)))
	}
	if !same(again, want) || !same(ask(c, tables), want) {
		t.Errorf("P27.6: two answers share memory")
	}
}

// TestNothingIsKept: what was told stays, and what is told later hangs on what is given then.
func TestNothingIsKept(t *testing.T) {
	c, tables := roomy(t)
	a, want := ask(c, tables), ask(c, tables)
	spoilAll(tables)
	if !same(a, want) {
		t.Errorf("P27.6: what was told changed with what was handed in")
	}
	c, tables = roomy(t)
	if !same(ask(c, tables), want) {
		t.Errorf("P3: the same tables are told otherwise")
	}
	if all, e := scrub.Look(c, make([][]api.Held, 5)); len(all) != 0 || e != api.OK {
		t.Errorf("P27.6: of empty tables Look is %v, %d", all, int(e))
	}
}

// TestBesideEachOther: calls that are given the same tables have nothing to do with each other.
func TestBesideEachOther(t *testing.T) {
	c, tables := roomy(t)
	want := ask(c, tables)
	_, others := roomy(t)
	var group sync.WaitGroup
	fine := make([]bool, 16)
	for i := range fine {
		group.Go(func() {
			given := tables
			if i%2 == 1 {
				given = others
			}
			fine[i] = same(ask(c, given), want)
		})
	}
	group.Wait()
	if slices.Contains(fine, false) {
		t.Errorf("P3: beside others another answer is told")
	}
}

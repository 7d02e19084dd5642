package tag_test

import (
	"math"
	"math/rand"
	"slices"
	"testing"

	"sherd/api"
	"sherd/tag"
)

// few: a set's tags, tags between them and around them, and tags that may not be.
func few() []api.Tag {
	l := []api.Tag{g(math.MinInt64, 1), g(-1, 5), g(0, 0), g(0, 1), g(0, 65536), g(top, 65535), g(top, 65536), g(top+1, 1), g(math.MaxInt64, math.MaxInt), g(math.MinInt64, math.MinInt)}
	for count := range int64(4) {
		for client := range 5 {
			l = append(l, g(count+1, client))
		}
	}
	return l
}

// model: the tags that were added and not cut since, in no order.
type model map[api.Tag]int

func (m model) from(t api.Tag) []api.Tag {
	var l []api.Tag
	for x := range m {
		if rank(x).Cmp(rank(t)) >= 0 {
			l = append(l, x)
		}
	}
	slices.SortFunc(l, func(a, b api.Tag) int { return rank(a).Cmp(rank(b)) })
	return l
}

func (m model) cut(t api.Tag) int {
	var out []api.Tag
	for x := range m {
		if rank(x).Cmp(rank(t)) < 0 {
			out = append(out, x)
		}
	}
	for _, x := range out {
		delete(m, x)
	}
	return len(out)
}

// checkSet asks all that can be asked of a set.
func checkSet(t *testing.T, s *tag.Set, m model) {
	t.Helper()
	if s.Len() != len(m) {
		t.Fatalf("G4: Len is %d, want %d", s.Len(), len(m))
	}
	all := m.from(g(math.MinInt64, math.MinInt))
	for i := -2; i < len(all)+2; i++ {
		want, wantErr := api.Tag{}, api.ErrNone
		if i >= 0 && i < len(all) {
			want, wantErr = all[len(all)-1-i], api.OK
		}
		if got, e := s.High(i); got != want || e != wantErr {
			t.Fatalf("G4: High(%d) of %v is %v, %d, want %v, %d", i, all, got, e, want, wantErr)
		}
	}
	for _, i := range []int{math.MinInt, math.MaxInt} {
		if got, e := s.High(i); got != g(0, 0) || e != api.ErrNone {
			t.Fatalf("G4: High(%d) is %v, %d", i, got, e)
		}
	}
	for _, x := range few() {
		if _, in := m[x]; s.Has(x) != in {
			t.Fatalf("G4: Has(%v) of %v is %v", x, all, !in)
		}
		if got, want := s.From(x), m.from(x); !slices.Equal(got, want) {
			t.Fatalf("G4: From(%v) of %v is %v, want %v", x, all, got, want)
		}
	}
}

func checkAdd(t *testing.T, s *tag.Set, m model, x api.Tag) {
	t.Helper()
	_, in := m[x]
	want, wantErr := !in, api.OK
	if !mayBe(x) {
		want, wantErr = false, api.ErrTag
	} else {
		m[x] = 1
	}
	if got, e := s.Add(x); got != want || e != wantErr {
		t.Fatalf("G4: Add(%v) is %v, %d, want %v, %d", x, got, e, want, wantErr)
	}
}

func TestSetExample(t *testing.T) {
	s, e := tag.NewSet(g(2, 1), g(1, 1), g(2, 1))
	if e != api.OK {
		t.Fatalf("G4: NewSet: %d", e)
	}
	m := model{g(2, 1): 1, g(1, 1): 1}
	checkSet(t, s, m)
	for _, x := range []api.Tag{g(1, 5), g(1, 5), g(0, 0)} {
		checkAdd(t, s, m, x)
		checkSet(t, s, m)
	}
	if got := s.From(g(1, 2)); !slices.Equal(got, []api.Tag{g(1, 5), g(2, 1)}) {
		t.Errorf("G4: From({1, 2}) is %v", got)
	}
	if got := s.From(g(0, 0)); !slices.Equal(got, []api.Tag{g(1, 1), g(1, 5), g(2, 1)}) {
		t.Errorf("G4: From({0, 0}) is %v", got)
	}
	for _, c := range []struct {
		t    api.Tag
		want int
	}{{g(1, 5), 1}, {g(1, 5), 0}, {g(9, 9), 2}, {g(9, 9), 0}} {
		if got := s.Cut(c.t); got != c.want {
			t.Errorf("G4: Cut(%v) is %d, want %d", c.t, got, c.want)
		}
	}
	checkSet(t, s, model{})
}

func TestNewSet(t *testing.T) {
	for _, ts := range [][]api.Tag{nil, {}} {
		s, e := tag.NewSet(ts...)
		if s == nil || e != api.OK {
			t.Fatalf("G4: NewSet of none: %v, %d", s, e)
		}
		checkSet(t, s, model{})
		m := model{}
		checkAdd(t, s, m, g(1, 1))
		checkSet(t, s, m)
	}
	for _, x := range append(few(), edges()...) {
		for place := range 3 {
			ts := slices.Insert([]api.Tag{g(3, 3), g(1, 2)}, place, x)
			s, e := tag.NewSet(ts...)
			if !mayBe(x) {
				if s != nil || e != api.ErrTag {
					t.Fatalf("G4: NewSet of %v: %v, %d", ts, s, e)
				}
				continue
			}
			if e != api.OK {
				t.Fatalf("G4: NewSet of %v: %d", ts, e)
			}
			checkSet(t, s, model{g(3, 3): 1, g(1, 2): 1, x: 1})
		}
	}
}

// orders: all orders of a list.
func orders(l []api.Tag) [][]api.Tag {
	if len(l) == 0 {
		return [][]api.Tag{nil}
	}
	var all [][]api.Tag
	for i := range l {
		for _, rest := range orders(slices.Delete(slices.Clone(l), i, i+1)) {
			all = append(all, append(rest, l[i]))
		}
	}
	return all
}

func TestSetWhateverTheOrder(t *testing.T) {
	for _, ts := range orders([]api.Tag{g(1, 1), g(2, 3), g(2, 4), g(4, 2), g(2, 3)}) {
		made, e := tag.NewSet(ts...)
		grown, _ := tag.NewSet()
		if e != api.OK {
			t.Fatalf("G4: NewSet: %d", e)
		}
		m := model{}
		for _, x := range ts {
			checkAdd(t, grown, m, x)
			checkSet(t, grown, m)
		}
		checkSet(t, made, m)
	}
}

func TestCutAtEachTag(t *testing.T) {
	for _, x := range append(few(), edges()...) {
		s, m := full(t)
		if got, want := s.Cut(x), m.cut(x); got != want {
			t.Fatalf("G4: Cut(%v) is %d, want %d", x, got, want)
		}
		checkSet(t, s, m)
		for _, y := range few() { // what was cut may be added again
			checkAdd(t, s, m, y)
		}
		checkSet(t, s, m)
	}
}

// full: a set of all of few that may be.
func full(t *testing.T) (*tag.Set, model) {
	t.Helper()
	m := model{}
	for _, x := range few() {
		if mayBe(x) {
			m[x] = 1
		}
	}
	s, e := tag.NewSet(m.from(g(0, 0))...)
	if e != api.OK {
		t.Fatalf("G4: NewSet: %d", e)
	}
	return s, m
}

func TestSetManySteps(t *testing.T) {
	draw := rand.New(rand.NewSource(8))
	universe := few()
	for range 300 {
		s, _ := tag.NewSet()
		m := model{}
		for range 60 {
			x := universe[draw.Intn(len(universe))]
			if draw.Intn(6) > 0 {
				checkAdd(t, s, m, x)
			} else if got, want := s.Cut(x), m.cut(x); got != want {
				t.Fatalf("G4: Cut(%v) is %d, want %d", x, got, want)
			}
			if draw.Intn(4) == 0 {
				checkSet(t, s, m)
			}
		}
		checkSet(t, s, m)
	}
}

func TestSetOfMany(t *testing.T) {
	const many = 20000
	s, _ := tag.NewSet()
	for i := range many {
		n := i * 7919 % many // each once, far from one another
		if in, e := s.Add(g(int64(n/100)+1, n%100+1)); !in || e != api.OK {
			t.Fatalf("G4: Add: %v, %d", in, e)
		}
	}
	for n := range many {
		want := g(int64(n/100)+1, n%100+1)
		if got, e := s.High(many - 1 - n); got != want || e != api.OK || !s.Has(want) {
			t.Fatalf("G4: High(%d) is %v, %d", many-1-n, got, e)
		}
	}
	for n := range many {
		if got := s.Cut(g(int64(n/100)+1, n%100+2)); got != 1 || s.Len() != many-1-n {
			t.Fatalf("G4: Cut is %d, Len %d", got, s.Len())
		}
	}
}

// TestSetKeepsToItself: what is handed in is neither changed nor kept, what is handed out is new, and two sets have nothing to do with each other.
func TestSetKeepsToItself(t *testing.T) {
	room := []api.Tag{g(3, 3), g(1, 1), g(3, 3), g(2, 2), g(9, 9), g(9, 8), g(9, 7)}
	given := slices.Clone(room)
	s, _ := tag.NewSet(room[:4]...)
	other, _ := tag.NewSet(room[:4]...)
	s.Add(g(1, 5))
	s.Cut(g(1, 2))
	if !slices.Equal(room, given) {
		t.Errorf("P2: what was handed in is %v now", room)
	}
	clear(room)
	want := model{g(3, 3): 1, g(2, 2): 1, g(1, 5): 1}
	checkSet(t, s, want)
	checkSet(t, other, model{g(3, 3): 1, g(2, 2): 1, g(1, 1): 1})

	for _, x := range few() {
		l := s.From(x)
		twin := s.From(x)
		for i := range l {
			l[i] = g(7, 7)
		}
		_ = append(l[:cap(l)], g(7, 7))
		for i := range l[:cap(l)] {
			l[:cap(l)][i] = g(7, 7)
		}
		if !slices.Equal(twin, want.from(x)) {
			t.Errorf("P2: From(%v) shares memory", x)
		}
		checkSet(t, s, want)
	}

	old := s.From(g(0, 0))
	s.Cut(g(2, 2))
	s.Add(g(1, 1))
	s.Add(g(2, 5))
	if !slices.Equal(old, want.from(g(0, 0))) {
		t.Errorf("P2: what From answered is %v now", old)
	}
}

func TestNilSet(t *testing.T) {
	var s *tag.Set
	for _, x := range few() {
		if in, e := s.Add(x); in || e != api.OK {
			t.Errorf("P1: Add(%v) on nil is %v, %d", x, in, e)
		}
		if s.Has(x) || len(s.From(x)) != 0 || s.Cut(x) != 0 {
			t.Errorf("P1: on nil %v is in, or cut", x)
		}
	}
	for _, i := range []int{-1, 0, 1, math.MinInt, math.MaxInt} {
		if got, e := s.High(i); got != g(0, 0) || e != api.OK {
			t.Errorf("P1: High(%d) on nil is %v, %d", i, got, e)
		}
	}
	if s.Len() != 0 {
		t.Errorf("P1: Len on nil is %d", s.Len())
	}
}

package order_test

import (
	"math/rand"
	"slices"
	"testing"

	"sherd/api"
	"sherd/linear"
	"sherd/order"
)

// The chapter told a second time: each of its words by itself, whatever it takes.

func fitByWords(calls []api.Call) bool {
	for _, c := range calls {
		for _, d := range calls {
			if c.Key != d.Key {
				return false
			}
		}
		if c.From < 0 || c.To != -1 && c.To <= c.From {
			return false
		}
		shouldBeOpen := false
		if c.Put && c.To == -1 {
			shouldBeOpen = true
		}
		if c.Put && c.Status != 0 {
			shouldBeOpen = true
		}
		if c.Open != shouldBeOpen || c.Open && c.To != -1 {
			return false
		}
	}
	return true
}

func dueByWords(c api.Call) bool {
	if c.Put && !c.Open {
		return true
	}
	return !c.Put && c.To >= 0 && (c.Status == 0 || c.Status == 76)
}

func explains(calls []api.Call, o []int) bool {
	for at, i := range o {
		if i < 0 || i >= len(calls) || slices.Contains(o[:at], i) {
			return false
		}
		if c := calls[i]; !dueByWords(c) && !(c.Put && c.Open) {
			return false
		}
	}
	for i, c := range calls {
		if dueByWords(c) && !slices.Contains(o, i) {
			return false
		}
	}
	for at, i := range o {
		for behind, j := range o {
			if !calls[i].Open && calls[i].To < calls[j].From && at > behind {
				return false
			}
		}
	}
	for at, i := range o {
		if calls[i].Put {
			continue
		}
		var last *api.Call
		for _, j := range o[:at] {
			if calls[j].Put {
				last = &calls[j]
			}
		}
		if calls[i].Status == 76 && last != nil {
			return false
		}
		if calls[i].Status == 0 && (last == nil || string(last.Value) != string(calls[i].Value)) {
			return false
		}
	}
	return true
}

func checkByWords(calls []api.Call, o []int) api.Errno {
	switch {
	case !fitByWords(calls):
		return 1
	case !explains(calls, o):
		return 81
	}
	return 0
}

// above tells whether one tag is above another.
func above(a, b api.Tag) bool {
	return a.Count > b.Count || a.Count == b.Count && a.Client > b.Client
}

// hands gives each Put the tags that it has: its own, or each that a Get tells and nobody has.
func hands(calls []api.Call, read []api.Tag) [][]api.Tag {
	has := make([][]api.Tag, len(calls))
	var own []api.Tag
	for i, c := range calls {
		if c.Put && (!c.Open || c.Tag != api.Tag{}) {
			has[i] = []api.Tag{c.Tag}
			own = append(own, c.Tag)
		}
	}
	for at, t := range read {
		if slices.Contains(own, t) || slices.Contains(read[:at], t) {
			continue
		}
		last := -1
		for i, c := range calls {
			if c.Open && c.Tag == (api.Tag{}) && c.Client == t.Client {
				last = i
			}
		}
		if last >= 0 {
			has[last] = append(has[last], t)
		}
	}
	return has
}

// takenByWords is the tag of each Put that is taken; no answer, if ErrOrder is due.
func takenByWords(calls []api.Call, read []api.Tag) (map[int]api.Tag, bool) {
	taken := map[int]api.Tag{}
	for i, tags := range hands(calls, read) {
		if len(tags) > 1 {
			return nil, false
		}
		if len(tags) == 1 && (!calls[i].Open || slices.Contains(read, tags[0])) {
			taken[i] = tags[0]
		}
	}
	for i, t := range taken {
		if t.Count < 1 || t.Count > 1<<62-1 || t.Client < 1 || t.Client > 65535 {
			return nil, false
		}
		for j, u := range taken {
			if i != j && t == u {
				return nil, false
			}
		}
	}
	for _, t := range read {
		found := false
		for _, u := range taken {
			found = found || t == u
		}
		if !found {
			return nil, false
		}
	}
	return taken, true
}

// getsByFrom adds the Gets that are due, of a Status and, if that is OK, of a tag, the earliest first.
func getsByFrom(calls []api.Call, o []int, status api.Errno, t api.Tag) []int {
	for {
		next := -1
		for i, c := range calls {
			fits := !c.Put && dueByWords(c) && c.Status == status && (status != 0 || c.Tag == t)
			if fits && !slices.Contains(o, i) && (next < 0 || c.From < calls[next].From) {
				next = i
			}
		}
		if next < 0 {
			return o
		}
		o = append(o, next)
	}
}

func tagsByWords(calls []api.Call) ([]int, api.Errno) {
	if !fitByWords(calls) {
		return nil, 1
	}
	var read []api.Tag
	for _, c := range calls {
		if !c.Put && dueByWords(c) && c.Status == 0 {
			read = append(read, c.Tag)
		}
	}
	taken, ok := takenByWords(calls, read)
	if !ok {
		return nil, 81
	}
	o := getsByFrom(calls, nil, 76, api.Tag{})
	for len(taken) > 0 {
		least := -1
		for i, t := range taken {
			if least < 0 || above(taken[least], t) {
				least = i
			}
		}
		o = append(o, least)
		o = getsByFrom(calls, o, 0, taken[least])
		delete(taken, least)
	}
	return o, 0
}

func sameTags(t *testing.T, calls []api.Call) ([]int, api.Errno) {
	t.Helper()
	want, why := tagsByWords(calls)
	o, e := order.ByTags(calls)
	if e != why || !slices.Equal(o, want) {
		t.Fatalf("O1: ByTags of %s is %v, %d, want %v, %d", told(calls), o, int(e), want, int(why))
	}
	return o, e
}

func sameCheck(t *testing.T, calls []api.Call, o []int) api.Errno {
	t.Helper()
	want := checkByWords(calls, o)
	if e := order.Check(calls, o); e != want {
		t.Fatalf("O1: Check of %s by %v is %d, want %d", told(calls), o, int(e), int(want))
	}
	return want
}

// lists gives all lists of so many elements at most, of numbers from the first to the last, to a function.
func lists(most, first, last int, each func([]int)) {
	var grow func(o []int)
	grow = func(o []int) {
		each(o)
		if len(o) == most {
			return
		}
		for i := first; i <= last; i++ {
			grow(append(o, i))
		}
	}
	grow(make([]int, 0, most))
}

// choices gives all lists of unlike numbers below a count to a function.
func choices(count int, each func([]int)) {
	var grow func(o []int)
	grow = func(o []int) {
		each(o)
		for i := range count {
			if !slices.Contains(o, i) {
				grow(append(o, i))
			}
		}
	}
	grow(make([]int, 0, count))
}

// kinds is calls of each kind that can be told apart, at a time, with a tag.
func kinds(from, to int, t api.Tag) []api.Call {
	all := list(get("a", from, to, t), ended(get("a", from, to, t), api.ErrAbsent), open("a", t.Client, from, t), open("a", 1, from, tg(0, 0)))
	if to >= 0 {
		all = append(all, put("a", from, to, t))
	}
	return all
}

// TestAllOfTwoAndThree: all lists of up to two calls with all lists of numbers, and of three with less to choose from.
func TestAllOfTwoAndThree(t *testing.T) {
	wrong := put("a", 0, 1, tg(1, 1))
	wrong.Open = true
	two := list(wrong, get("b", 0, 3, tg(1, 1)), put("b", 1, 2, tg(1, 1)), ended(get("a", 0, 1, tg(1, 1)), api.ErrSum), open("b", 1, 2, tg(0, 0)))
	var three []api.Call
	for _, x := range [][2]int{{0, 1}, {0, 2}, {2, 3}, {1, -1}} {
		for _, g := range []api.Tag{{}, tg(1, 1), tg(1, 2)} {
			two = append(two, kinds(x[0], x[1], g)...)
		}
	}
	for _, x := range [][2]int{{0, 1}, {2, 3}} {
		for _, g := range []api.Tag{tg(1, 1), tg(2, 1)} {
			three = append(three, kinds(x[0], x[1], g)...)
		}
	}
	three = append(three, get("b", 0, 3, tg(1, 1)))
	for _, c := range two {
		sameTags(t, list(c))
		lists(3, -1, 1, func(o []int) { sameCheck(t, list(c), o) })
		for _, d := range two {
			sameTags(t, list(c, d))
			lists(3, -1, 2, func(o []int) { sameCheck(t, list(c, d), o) })
		}
	}
	for _, c := range three {
		for _, d := range three {
			for _, e := range three {
				calls := list(c, d, e)
				sameTags(t, calls)
				choices(3, func(o []int) { sameCheck(t, calls, o) })
			}
		}
	}
}

// drawn is calls at random: so many, of so many values, clients and counters, within so many numbers; all fit.
func drawn(r *rand.Rand, count, few, span int) []api.Call {
	calls := make([]api.Call, count)
	for i := range calls {
		from := r.Intn(span)
		to := from + 1 + r.Intn(span)
		value := string(rune('a' + r.Intn(few)))
		g := tg(1+int64(r.Intn(2*few)), 1+r.Intn(few))
		switch k := r.Intn(20); {
		case k < 6:
			calls[i] = put(value, from, to, g)
		case k < 8:
			calls[i] = open(value, g.Client, from, g)
		case k < 10:
			calls[i] = open(value, g.Client, from, tg(0, 0))
		case k < 17:
			calls[i] = get(value, from, to, g)
		case k < 18:
			calls[i] = none(from, to)
		case k < 19:
			calls[i] = get(value, from, -1, g)
		default:
			calls[i] = ended(get(value, from, to, g), api.ErrSize)
		}
	}
	return calls
}

// spoil changes a call into something odd, often not fit.
func spoil(r *rand.Rand, calls []api.Call) {
	c := &calls[r.Intn(len(calls))]
	switch r.Intn(7) {
	case 0:
		c.To = r.Intn(6) - 2
	case 1:
		c.From = r.Intn(6) - 2
	case 2:
		c.Open = !c.Open
	case 3:
		c.Status = []api.Errno{api.OK, api.ErrAbsent, api.ErrFull, api.ErrGone}[r.Intn(4)]
	case 4:
		c.Key = "j"
	case 5:
		c.Put = !c.Put
	default:
		c.Tag = improper()[r.Intn(len(improper()))]
	}
}

// drawnOrder is the numbers of the calls that have a part, mixed, or spoilt.
func drawnOrder(r *rand.Rand, calls []api.Call) []int {
	var o []int
	for i, c := range calls {
		if dueByWords(c) || c.Open && r.Intn(2) == 0 {
			o = append(o, i)
		}
	}
	r.Shuffle(len(o), func(i, j int) { o[i], o[j] = o[j], o[i] })
	if r.Intn(2) == 0 {
		slices.SortStableFunc(o, func(a, b int) int { return calls[a].From - calls[b].From })
	}
	if r.Intn(8) == 0 {
		o = slices.Insert(o, r.Intn(len(o)+1), r.Intn(len(calls)+2)-1)
	}
	if len(o) > 0 && r.Intn(8) == 0 {
		at := r.Intn(len(o))
		o = slices.Delete(o, at, at+1)
	}
	return o
}

func TestDrawn(t *testing.T) {
	r := rand.New(rand.NewSource(210))
	checked, tagged := map[api.Errno]int{}, map[api.Errno]int{}
	for range 60000 {
		calls := drawn(r, 1+r.Intn(9), 1+r.Intn(3), 1+r.Intn(12))
		if r.Intn(6) == 0 {
			spoil(r, calls)
		}
		o, e := sameTags(t, calls)
		tagged[e]++
		sameCheck(t, calls, o)
		for range 3 {
			checked[sameCheck(t, calls, drawnOrder(r, calls))]++
		}
	}
	for _, e := range []api.Errno{api.OK, api.ErrArg, api.ErrOrder} {
		if checked[e] < 1000 || tagged[e] < 1000 {
			t.Errorf("too little of %d: %v, %v", int(e), checked, tagged)
		}
	}
}

// lived is calls as they come about at a register: each takes effect at a time of its own between its two ends, the Puts with rising tags; their numbers are mixed. And the order in which they took effect.
func lived(r *rand.Rand, count, few, length int) ([]api.Call, []int) {
	var calls []api.Call
	var effects []int
	now, last := "", tg(0, 0)
	busy := 0 // how many clients keep a tag to themselves
	for i := range count {
		at := length + 4*i
		from, to := at-r.Intn(length), at+1+r.Intn(length)
		value := string(rune('a' + r.Intn(few)))
		next := tg(last.Count+int64(r.Intn(2)), last.Client+1)
		if r.Intn(2) == 0 {
			next = tg(last.Count+1, 1+r.Intn(last.Client+1))
		}
		c := get(now, from, to, last)
		switch k := r.Intn(12); {
		case k < 4 && last == tg(0, 0):
			c = none(from, to)
		case k < 7 && last != tg(0, 0):
		case k < 9:
			next.Count = max(next.Count, 1)
			c, now, last = put(value, from, to, next), value, next
		case k < 10:
			next.Count = max(next.Count, 1)
			c, now, last = ended(open(value, next.Client, from, next), api.ErrGone), value, next
		case k < 11:
			busy++
			last = tg(last.Count+1, 1000+busy)
			c, now = open(value, last.Client, from, tg(0, 0)), value
		default:
			calls = append(calls, ended(open(value, 500, from, tg(0, 0)), api.ErrFull), ended(get("", from, to, last), api.ErrWrong), get("", from, -1, tg(0, 0)))
			continue
		}
		effects = append(effects, len(calls))
		calls = append(calls, c)
	}
	places := r.Perm(len(calls))
	mixed := make([]api.Call, len(calls))
	for i, place := range places {
		mixed[place] = calls[i]
	}
	for at, i := range effects {
		effects[at] = places[i]
	}
	return mixed, effects
}

// TestLived: the order in which calls took effect explains them, and so does the one by tags, which has the same Puts, but for those that nobody read, in the same order.
func TestLived(t *testing.T) {
	r := rand.New(rand.NewSource(211))
	for range 3000 {
		calls, effects := lived(r, 1+r.Intn(60), 1+r.Intn(5), 1+r.Intn(30))
		if e := sameCheck(t, calls, effects); e != api.OK {
			t.Fatalf("O1: of %s Check of the order in which it came is %d", told(calls), int(e))
		}
		o, e := sameTags(t, calls)
		if e != api.OK || sameCheck(t, calls, o) != api.OK {
			t.Fatalf("O1: of %s ByTags is %v, %d, which Check refuses", told(calls), o, int(e))
		}
		puts := slices.DeleteFunc(slices.Clone(o), func(i int) bool { return !calls[i].Put })
		effects = slices.DeleteFunc(effects, func(i int) bool { return !slices.Contains(puts, i) })
		if !slices.Equal(puts, effects) {
			t.Fatalf("O1: of %s ByTags has the Puts %v, want %v", told(calls), puts, effects)
		}
		if len(o) > 1 { // with two exchanged, or one left out, it is as the words say
			a, b := r.Intn(len(o)), r.Intn(len(o))
			sameCheck(t, calls, slices.Delete(slices.Clone(o), a, a+1))
			o[a], o[b] = o[b], o[a]
			sameCheck(t, calls, o)
		}
	}
}

// TestLinearFindsOne: of few calls linear finds an order just if Check takes one of all, and Check takes what it finds.
func TestLinearFindsOne(t *testing.T) {
	r := rand.New(rand.NewSource(212))
	yes, no := 0, 0
	for range 12000 {
		calls := drawn(r, 1+r.Intn(5), 1+r.Intn(2), 1+r.Intn(8))
		found, can, e := linear.One(calls)
		is := false
		choices(len(calls), func(o []int) { is = is || order.Check(calls, o) == api.OK })
		if e != api.OK || is != can {
			t.Fatalf("O2: of %s linear says %v, %d, and Check takes one: %v", told(calls), can, int(e), is)
		}
		if can && order.Check(calls, found) != api.OK {
			t.Fatalf("O2: of %s linear finds %v, which Check refuses", told(calls), found)
		}
		if can {
			yes++
		} else {
			no++
		}
	}
	if yes < 2000 || no < 2000 {
		t.Errorf("too much of one kind: %d, %d", yes, no)
	}
}

// TestLinearOfMore: of as many calls as linear goes through, with an order that is known; and with one Get that tells something else.
func TestLinearOfMore(t *testing.T) {
	r := rand.New(rand.NewSource(213))
	spoilt := 0
	for range 1500 {
		calls, effects := lived(r, 8+r.Intn(15), 1+r.Intn(4), 1+r.Intn(16))
		found, can, e := linear.One(calls)
		if e == api.ErrHeavy {
			continue
		}
		if !can || order.Check(calls, found) != api.OK || order.Check(calls, effects) != api.OK {
			t.Fatalf("O2: of %s linear finds %v, %v; it came by %v", told(calls), found, can, effects)
		}
		if at := r.Intn(len(calls)); !calls[at].Put {
			calls[at].Value = []byte{byte('a' + r.Intn(4))}
			found, can, _ = linear.One(calls)
			if can && order.Check(calls, found) != api.OK {
				t.Fatalf("O2: of %s linear finds %v, which Check refuses", told(calls), found)
			}
			o, _ := sameTags(t, calls)
			if !can {
				spoilt++
				if order.Check(calls, o) == api.OK || order.Check(calls, effects) == api.OK {
					t.Fatalf("O2: of %s linear finds none, and Check takes one", told(calls))
				}
			}
		}
	}
	if spoilt < 50 {
		t.Errorf("too few that can't be explained: %d", spoilt)
	}
}

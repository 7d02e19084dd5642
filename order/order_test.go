package order_test

import (
	"fmt"
	"math"
	"slices"
	"strings"
	"testing"

	"sherd/api"
	"sherd/order"
)

func tg(count int64, client int) api.Tag { return api.Tag{Count: count, Client: client} }

// put and get are calls that returned OK; open is a Put that has not returned.
func put(value string, from, to int, t api.Tag) api.Call {
	return api.Call{Client: t.Client, Op: 1, Put: true, Key: "k", Value: []byte(value), From: from, To: to, Tag: t}
}

func open(value string, client, from int, t api.Tag) api.Call {
	return api.Call{Client: client, Op: 1, Put: true, Key: "k", Value: []byte(value), From: from, To: -1, Open: true, Tag: t}
}

func get(value string, from, to int, t api.Tag) api.Call {
	return api.Call{Client: 99, Op: 1, Key: "k", Value: []byte(value), From: from, To: to, Tag: t}
}

func none(from, to int) api.Call {
	return api.Call{Client: 99, Op: 1, Key: "k", Status: api.ErrAbsent, From: from, To: to}
}

func ended(c api.Call, status api.Errno) api.Call {
	c.Status = status
	return c
}

func list(calls ...api.Call) []api.Call { return calls }

// told is calls as the chapter writes them.
func told(calls []api.Call) string {
	var lines []string
	for i, c := range calls {
		name, star := "G", ""
		if c.Put {
			name = "P"
		}
		if c.Open {
			star = "*"
		}
		lines = append(lines, fmt.Sprintf("%d: %s%s(%q, %d, %d, %v) of %d under %q: %d", i, name, star, c.Value, c.From, c.To, c.Tag, c.Client, c.Key, int(c.Status)))
	}
	return strings.Join(lines, "; ")
}

// is tells that each of the orders is answered so.
func is(t *testing.T, want api.Errno, calls []api.Call, orders ...[]int) {
	t.Helper()
	for _, o := range orders {
		if e := order.Check(calls, o); e != want {
			t.Errorf("O1: Check of %s by %v is %d, want %d", told(calls), o, int(e), int(want))
		}
	}
}

func tags(t *testing.T, calls []api.Call, want ...int) {
	t.Helper()
	if o, e := order.ByTags(calls); e != api.OK || !slices.Equal(o, want) {
		t.Errorf("O1: ByTags of %s is %v, %d, want %v", told(calls), o, int(e), want)
	}
}

func noTags(t *testing.T, calls []api.Call, want api.Errno) {
	t.Helper()
	if o, e := order.ByTags(calls); e != want || len(o) != 0 {
		t.Errorf("O1: ByTags of %s is %v, %d, want %d", told(calls), o, int(e), int(want))
	}
}

func TestExamplesOfTheChapter(t *testing.T) {
	one := list(put("a", 0, 1, tg(1, 1)), get("a", 2, 3, tg(1, 1)))
	is(t, api.OK, one, []int{0, 1})
	is(t, api.ErrOrder, one, []int{1, 0}, []int{0}, []int{0, 1, 0}, []int{0, 2})
	tags(t, one, 0, 1)

	two := list(put("a", 0, 5, tg(2, 1)), put("b", 1, 2, tg(1, 2)), get("a", 6, 7, tg(2, 1)))
	is(t, api.OK, two, []int{1, 0, 2})
	is(t, api.ErrOrder, two, []int{0, 1, 2})
	tags(t, two, 1, 0, 2)

	three := list(put("a", 0, 1, tg(1, 1)), none(2, 3))
	is(t, api.ErrOrder, three, []int{0, 1}, []int{1, 0})
	tags(t, three, 1, 0)

	four := list(open("a", 4, 0, tg(0, 0)), get("a", 1, 2, tg(3, 4)))
	is(t, api.OK, four, []int{0, 1})
	is(t, api.ErrOrder, four, []int{1})
	tags(t, four, 0, 1)
	four = append(four, open("b", 5, 0, tg(0, 0)))
	is(t, api.OK, four, []int{0, 1}, []int{2, 0, 1}, []int{0, 1, 2})
	tags(t, four, 0, 1)
	four[1].Tag = tg(3, 9)
	noTags(t, four, api.ErrOrder)

	six := list(put("a", 0, 9, tg(1, 1)), get("a", 1, 2, tg(1, 1)), none(3, 4))
	is(t, api.ErrOrder, six, []int{0, 1, 2}, []int{2, 0, 1})

	seven := list(ended(get("a", 0, 1, tg(1, 1)), api.ErrGone), get("", 0, -1, tg(0, 0)), put("a", 2, 3, tg(1, 1)))
	is(t, api.OK, seven, []int{2})
	is(t, api.ErrOrder, seven, []int{2, 0}, []int{2, 1}, []int{1, 2}, []int{0, 1, 2}, nil)
	tags(t, seven, 2)
}

func TestNoCalls(t *testing.T) {
	for _, calls := range [][]api.Call{nil, {}} {
		is(t, api.OK, calls, nil, []int{})
		is(t, api.ErrOrder, calls, []int{0}, []int{-1}, []int{0, 0})
		tags(t, calls)
	}
}

// unfit is calls each of which is not fit by itself.
func unfit() []api.Call {
	var all []api.Call
	fine := list(put("a", 0, 1, tg(1, 1)), open("a", 1, 0, tg(1, 1)), get("a", 0, 1, tg(1, 1)), none(0, 1), ended(get("", 0, 1, tg(0, 0)), api.ErrGone))
	for _, x := range [][2]int{{-1, 1}, {-1, -1}, {math.MinInt, -1}, {-5, 9}, {3, 3}, {3, 2}, {3, 0}, {0, 0}, {0, -2}, {3, -2}, {0, math.MinInt}, {math.MaxInt, math.MaxInt}, {math.MaxInt, 0}} {
		for _, c := range fine {
			c.From, c.To = x[0], x[1]
			all = append(all, c)
		}
	}
	for _, c := range list(put("a", 0, 1, tg(1, 1)), open("a", 1, 0, tg(1, 1)), ended(open("a", 1, 0, tg(0, 0)), api.ErrFull), ended(open("a", 1, 0, tg(1, 1)), api.ErrGone), get("a", 0, 1, tg(1, 1)), get("", 0, -1, tg(0, 0)), none(0, 1), ended(get("", 0, -1, tg(0, 0)), api.ErrGone)) {
		c.Open = !c.Open
		all = append(all, c)
	}
	late := open("a", 1, 0, tg(0, 0))
	late.To = 4
	all = append(all, late, ended(late, api.ErrFull), ended(late, api.ErrGone), ended(late, -1))
	for _, status := range []api.Errno{-1, 1, api.ErrFull, api.ErrAbsent, api.ErrGone} {
		all = append(all, ended(put("a", 0, 1, tg(1, 1)), status))
	}
	return all
}

// TestNotFit: ErrArg comes ahead of all that is to be said of an order or of tags.
func TestNotFit(t *testing.T) {
	fine := put("a", 5, 6, tg(1, 1))
	for _, c := range unfit() {
		for _, calls := range [][]api.Call{{c}, {c, fine}, {fine, c}, {fine, c, fine}} {
			is(t, api.ErrArg, calls, nil, []int{0}, []int{0, 1}, []int{9}, []int{-1, -1})
			noTags(t, calls, api.ErrArg)
		}
	}
}

func TestOneKey(t *testing.T) {
	for _, keys := range [][]string{{"k", "j"}, {"k", ""}, {"", "k"}, {"k", "K"}, {"k", "k", "k "}, {"k", "j", "k"}, {"j", "k", "k"}} {
		var calls []api.Call
		for i, key := range keys {
			c := put("a", 2*i, 2*i+1, tg(1+int64(i), 1))
			if i%2 == 1 {
				c = ended(get("", 2*i, -1, tg(0, 0)), api.ErrGone) // one that has no part must have the key too
			}
			c.Key = key
			calls = append(calls, c)
		}
		is(t, api.ErrArg, calls, nil, []int{0}, []int{0, 2})
		noTags(t, calls, api.ErrArg)
	}
	for _, key := range []string{"", "k", strings.Repeat("k", 99), "\xff\x00"} { // whichever it is
		calls := list(put("a", 0, 1, tg(1, 1)), get("a", 2, 3, tg(1, 1)))
		calls[0].Key, calls[1].Key = key, key
		is(t, api.OK, calls, []int{0, 1})
		tags(t, calls, 0, 1)
	}
}

// TestFit: what may be, though it is odd.
func TestFit(t *testing.T) {
	far := list(put("a", 0, math.MaxInt, tg(1, 1)), put("b", math.MaxInt-1, math.MaxInt, tg(2, 1)), open("c", 1, math.MaxInt, tg(0, 0)), get("", math.MaxInt, -1, tg(0, 0)))
	is(t, api.OK, far, []int{0, 1}, []int{1, 0}, []int{2, 0, 1}, []int{0, 2, 1})
	tags(t, far, 0, 1)
	for _, status := range []api.Errno{api.OK, api.ErrFull, api.ErrGone, api.ErrAbsent, -7} { // an open one may have any
		calls := list(ended(open("a", 1, 0, tg(0, 0)), status), get("a", 1, 2, tg(3, 1)))
		is(t, api.OK, calls, []int{0, 1})
		is(t, api.ErrOrder, calls, []int{1}, []int{0}, []int{1, 0})
		tags(t, calls, 0, 1)
	}
	strangers := list(put("a", 0, 1, tg(1, 1)), get("a", 2, 3, tg(1, 1))) // nothing is asked of clients and operations
	for i := range strangers {
		strangers[i].Client, strangers[i].Op = -5, math.MinInt64
	}
	is(t, api.OK, strangers, []int{0, 1})
	tags(t, strangers, 0, 1)
}

// TestWhichStandInAnOrder: the first of the three rules.
func TestWhichStandInAnOrder(t *testing.T) {
	calls := list(put("a", 0, 9, tg(1, 1)), open("a", 2, 0, tg(0, 0)), get("a", 0, 9, tg(1, 1)), none(0, 9), get("a", 0, -1, tg(0, 0)), ended(get("a", 0, 9, tg(1, 1)), api.ErrPad), none(0, -1))
	is(t, api.OK, calls, []int{3, 0, 2}, []int{3, 1, 0, 2}, []int{3, 0, 1, 2}, []int{3, 0, 2, 1}, []int{3, 1, 2, 0})
	is(t, api.ErrOrder, calls,
		nil, []int{3}, []int{0, 2}, []int{3, 0}, []int{3, 1, 2}, // one that is due is missing
		[]int{3, 0, 0, 2}, []int{3, 0, 2, 2}, []int{3, 3, 0, 2}, []int{3, 1, 1, 0, 2}, []int{3, 1, 0, 2, 1}, // twice
		[]int{3, 0, 2, 4}, []int{3, 0, 2, 5}, []int{6, 3, 0, 2}, []int{3, 6, 0, 2}, []int{3, 0, 4, 2}, // one that has no part
		[]int{3, 0, 2, 7}, []int{3, 0, 2, -1}, []int{-1, 3, 0, 2}, []int{3, 0, 2, math.MaxInt}, []int{math.MinInt, 3, 0, 2}) // no call's number
	for _, status := range []api.Errno{api.ErrFew, api.ErrWrong, api.ErrGone, api.ErrFull, 1, -1} {
		other := list(ended(get("a", 2, 3, tg(1, 1)), status), put("a", 0, 1, tg(1, 1)))
		is(t, api.OK, other, []int{1})
		is(t, api.ErrOrder, other, []int{1, 0}, []int{0, 1})
	}
}

// TestWhoReturnedAhead: the second rule, one step more or less at each of the two ends.
func TestWhoReturnedAhead(t *testing.T) {
	a, b := tg(1, 1), tg(2, 1)
	for to := 1; to <= 6; to++ {
		for from := 0; from <= 6; from++ {
			calls := list(put("a", 0, to, a), put("b", from, from+1, b))
			is(t, api.OK, calls, []int{0, 1})
			want := api.OK
			if to < from {
				want = api.ErrOrder
			}
			is(t, want, calls, []int{1, 0})
		}
	}
	is(t, api.ErrOrder, list(put("a", 4, 5, a), put("b", 2, 3, b)), []int{0, 1})
	// Between two that stand the wrong way round others may stand.
	calls := list(put("a", 0, 1, a), open("b", 1, 0, tg(0, 0)), put("c", 0, 9, b), put("d", 2, 3, tg(3, 1)))
	is(t, api.OK, calls, []int{0, 1, 2, 3}, []int{2, 0, 1, 3}, []int{0, 3, 2, 1}, []int{2, 0, 3})
	is(t, api.ErrOrder, calls, []int{3, 1, 2, 0}, []int{3, 2, 0}, []int{2, 3, 0}, []int{3, 0, 1, 2})
	// An open one is ahead of none for sure, but those that returned ahead of its beginning are ahead of it.
	opened := list(open("a", 1, 5, tg(0, 0)), put("b", 2, 3, a), put("c", 7, 8, b))
	is(t, api.OK, opened, []int{1, 0, 2}, []int{1, 2, 0}, []int{1, 2})
	is(t, api.ErrOrder, opened, []int{0, 1, 2}, []int{2, 1}, []int{2, 1, 0}, []int{2, 0, 1})
	same := list(open("a", 1, 3, tg(0, 0)), put("b", 2, 3, a))
	is(t, api.OK, same, []int{0, 1}, []int{1, 0})
	// Gets bind as Puts do.
	gets := list(put("a", 0, 9, a), get("a", 1, 2, a), get("a", 3, 4, a), put("b", 5, 9, b), none(0, 1))
	is(t, api.OK, gets, []int{4, 0, 1, 2, 3})
	is(t, api.ErrOrder, gets, []int{4, 0, 2, 1, 3}, []int{4, 3, 0, 1, 2})
}

// TestWhatGetsTell: the third rule.
func TestWhatGetsTell(t *testing.T) {
	x := tg(1, 1)
	calls := list(put("a", 0, 9, x), put("b", 0, 9, x), get("a", 0, 9, x), get("b", 0, 9, x), none(0, 9))
	is(t, api.OK, calls, []int{4, 0, 2, 1, 3}, []int{4, 1, 3, 0, 2})
	is(t, api.ErrOrder, calls, []int{0, 4, 2, 1, 3}, []int{0, 2, 4, 1, 3}, []int{0, 2, 1, 3, 4}, []int{4, 2, 0, 1, 3}, []int{4, 0, 3, 1, 2}, []int{4, 0, 1, 2, 3}, []int{4, 0, 1, 3, 2}, []int{2, 4, 0, 1, 3})
	empty := list(put("", 0, 9, x), get("", 0, 9, x), none(0, 9))
	is(t, api.OK, empty, []int{2, 0, 1})
	is(t, api.ErrOrder, empty, []int{2, 1, 0}, []int{1, 2, 0}, []int{0, 1, 2}, []int{0, 2, 1})
	for _, i := range []int{0, 1} { // no bytes, told as nil or not
		mixed := slices.Clone(empty)
		mixed[i].Value = nil
		is(t, api.OK, mixed, []int{2, 0, 1})
		is(t, api.ErrOrder, mixed, []int{2, 1, 0})
	}
	for _, v := range []string{"", "aa", "A", "ab", "b", "a\x00"} {
		is(t, api.ErrOrder, list(put("a", 0, 1, x), get(v, 2, 3, x)), []int{0, 1})
		is(t, api.OK, list(put(v, 0, 1, x), get(v, 2, 3, x)), []int{0, 1})
	}
	read := list(open("a", 1, 0, tg(0, 0)), get("a", 1, 2, x), none(3, 4))
	is(t, api.ErrOrder, read, []int{2, 0, 1}, []int{0, 1, 2}, []int{0, 2, 1}, []int{1, 2})
	valued := ended(get("a", 0, 1, x), api.ErrAbsent) // of one that is ErrAbsent the Value and the Tag say nothing
	is(t, api.OK, list(valued, put("b", 0, 1, x)), []int{0, 1})
	is(t, api.ErrOrder, list(valued, put("a", 0, 1, x)), []int{1, 0})
	is(t, api.OK, list(put("a", 0, 1, tg(0, 0)), get("a", 0, 1, tg(7, -7))), []int{0, 1}) // tags say nothing to Check
}

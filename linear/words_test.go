package linear_test

import (
	"bytes"
	"math/rand"
	"slices"
	"testing"

	"sherd/api"
	"sherd/linear"
)

// The chapter told a second time: each of its words by itself, and the first order by trying all lists in their order.

func mustBe(c api.Call) bool {
	if c.Put {
		return !c.Open
	}
	return c.To >= 0 && (c.Status == 0 || c.Status == 76)
}

func mayBe(c api.Call) bool { return c.Put && c.Open }

func aheadForSure(c, d api.Call) bool {
	both := (mustBe(c) || mayBe(c)) && (mustBe(d) || mayBe(d))
	return both && !(c.Put && c.Open) && c.To >= 0 && c.To < d.From
}

// explains tells whether an order explains the calls.
func explains(calls []api.Call, order []int) bool {
	for i, c := range calls {
		in := slices.Contains(order, i)
		if mustBe(c) && !in || in && !mustBe(c) && !mayBe(c) {
			return false
		}
	}
	return begins(calls, order)
}

// begins tells whether an order is right as far as it goes.
func begins(calls []api.Call, order []int) bool {
	for at := range order {
		if !fitsLast(calls, order[:at+1]) {
			return false
		}
	}
	return true
}

// fitsLast tells whether the last one of an order may stand there.
func fitsLast(calls []api.Call, order []int) bool {
	ahead := order[:len(order)-1]
	number := order[len(order)-1]
	if slices.Contains(ahead, number) || number < 0 || number >= len(calls) {
		return false
	}
	c := calls[number]
	if !mustBe(c) && !mayBe(c) {
		return false
	}
	for j, d := range calls {
		if aheadForSure(d, c) && mustBe(d) && !slices.Contains(ahead, j) {
			return false
		}
	}
	var last *api.Call
	for _, j := range ahead {
		if calls[j].Put {
			last = &calls[j]
		}
	}
	switch {
	case c.Put:
		return true
	case c.Status == 76:
		return last == nil
	}
	return last != nil && bytes.Equal(last.Value, c.Value)
}

// firstOfAll is the first of all lists of numbers that explains the calls: no list is passed over.
func firstOfAll(calls []api.Call) ([]int, bool) {
	var try func(order []int) ([]int, bool)
	try = func(order []int) ([]int, bool) {
		if explains(calls, order) {
			return slices.Clone(order), true
		}
		for i := range calls {
			if !slices.Contains(order, i) {
				if found, ok := try(append(order, i)); ok {
					return found, true
				}
			}
		}
		return nil, false
	}
	return try(nil)
}

// firstFound is the same of more calls: what begins wrongly is not gone on with, and a set of calls with the same value last is gone through once.
func firstFound(calls []api.Call) ([]int, bool) {
	type point struct {
		in   uint64
		last string
	}
	tried := map[point]bool{}
	all := uint64(0)
	for i, c := range calls {
		if mustBe(c) {
			all |= 1 << i
		}
	}
	var try func(order []int, p point) ([]int, bool)
	try = func(order []int, p point) ([]int, bool) {
		if all&^p.in == 0 {
			return slices.Clone(order), true
		}
		if tried[p] {
			return nil, false
		}
		tried[p] = true
		for i, c := range calls {
			longer := append(order, i)
			if !fitsLast(calls, longer) {
				continue
			}
			next := point{p.in | 1<<i, p.last}
			if c.Put {
				next.last = "put " + string(c.Value)
			}
			if found, ok := try(longer, next); ok {
				return found, true
			}
		}
		return nil, false
	}
	return try(nil, point{})
}

func same(t *testing.T, calls []api.Call, order []int, ok bool) {
	t.Helper()
	got, is, e := linear.One(calls)
	if e != api.OK || is != ok || !slices.Equal(got, order) {
		t.Fatalf("P20.1: of %s One is %v, %v, %d, want %v, %v", told(calls), got, is, int(e), order, ok)
	}
}

// kinds is calls of each kind that can be told apart, over two values, at a time.
func kinds(from, to int) []api.Call {
	openGet := get("a", from, to)
	openGet.Open = true
	return list(put("a", from, to), put("b", from, to), open("a", from, to), open("b", from, to),
		get("a", from, to), get("b", from, to), get("-", from, to), ended(get("a", from, to), api.ErrGone), openGet)
}

// TestAllOfTwoAndThree: all lists of up to two calls, and of three with less to choose from.
func TestAllOfTwoAndThree(t *testing.T) {
	var two, three []api.Call
	for _, x := range [][2]int{{0, 1}, {0, 2}, {0, 3}, {0, -1}, {1, 2}, {1, 3}, {1, -1}, {2, 3}, {2, -1}, {3, 4}} {
		two = append(two, kinds(x[0], x[1])...)
	}
	for _, x := range [][2]int{{0, 1}, {0, 4}, {2, 3}, {1, -1}} {
		three = append(three, kinds(x[0], x[1])[:7]...)
	}
	for _, c := range two {
		order, ok := firstOfAll(list(c))
		same(t, list(c), order, ok)
		for _, d := range two {
			order, ok := firstOfAll(list(c, d))
			same(t, list(c, d), order, ok)
		}
	}
	for _, c := range three {
		for _, d := range three {
			for _, e := range three {
				order, ok := firstOfAll(list(c, d, e))
				same(t, list(c, d, e), order, ok)
			}
		}
	}
}

// drawn is calls at random: so many, of so many values, within so many numbers and each at most so long.
func drawn(r *rand.Rand, count, values, span, length int) []api.Call {
	calls := make([]api.Call, count)
	for i := range calls {
		from := r.Intn(span)
		to := from + 1 + r.Intn(length)
		value := string(rune('a' + r.Intn(values)))
		switch k := r.Intn(20); {
		case k < 7:
			calls[i] = put(value, from, to)
		case k < 8:
			calls[i] = put(value, from, -1)
		case k < 9:
			calls[i] = open(value, from, to)
		case k < 11:
			calls[i] = open(value, from, -1)
		case k < 17:
			calls[i] = get(value, from, to)
		case k < 18:
			calls[i] = get("-", from, to)
		case k < 19:
			calls[i] = get(value, from, -1)
		default:
			calls[i] = ended(get(value, from, to), api.ErrSize)
		}
	}
	return calls
}

func TestDrawnFew(t *testing.T) {
	r := rand.New(rand.NewSource(20))
	yes, no := 0, 0
	for range 12000 {
		calls := drawn(r, 1+r.Intn(6), 1+r.Intn(3), 1+r.Intn(12), 1+r.Intn(12))
		order, ok := firstOfAll(calls)
		same(t, calls, order, ok)
		other, also := firstFound(calls)
		if also != ok || !slices.Equal(order, other) {
			t.Fatalf("the two tellings part: %s", told(calls))
		}
		if ok {
			yes++
		} else {
			no++
		}
	}
	if yes < 2000 || no < 2000 {
		t.Errorf("too much of one kind: %d, %d", yes, no)
	}
}

func TestDrawnMore(t *testing.T) {
	r := rand.New(rand.NewSource(21))
	for range 6000 {
		calls := drawn(r, 7+r.Intn(5), 1+r.Intn(5), 1+r.Intn(20), 1+r.Intn(20))
		order, ok := firstFound(calls)
		same(t, calls, order, ok)
	}
}

// lived is calls as they come about at a register: each takes effect at a time of its own between its two ends; their numbers are mixed.
func lived(r *rand.Rand, count, values, length int) []api.Call {
	calls := make([]api.Call, count)
	now := "-"
	for i := range calls {
		at := length + 4*i
		from, to := at-r.Intn(length), at+1+r.Intn(length)
		switch k := r.Intn(10); {
		case k < 5:
			calls[i] = get(now, from, to)
		case k < 8:
			now = string(rune('a' + r.Intn(values)))
			calls[i] = put(now, from, to)
		case k < 9:
			now = string(rune('a' + r.Intn(values)))
			calls[i] = open(now, from, -1)
		default:
			calls[i] = open(string(rune('a'+r.Intn(values))), from, to)
		}
	}
	r.Shuffle(count, func(i, j int) { calls[i], calls[j] = calls[j], calls[i] })
	return calls
}

// TestLived: up to as many calls as may be, with an order that explains them; and with one Get that tells something else.
func TestLived(t *testing.T) {
	r := rand.New(rand.NewSource(22))
	spoilt := 0
	for range 1500 {
		calls := lived(r, 12+r.Intn(13), 1+r.Intn(6), 1+r.Intn(16))
		order, ok := firstFound(calls)
		if !ok {
			t.Fatalf("a register brings no order: %s", told(calls))
		}
		same(t, calls, order, true)
		if got, _, _ := linear.One(calls); !explains(calls, got) {
			t.Fatalf("P20.1: %v does not explain %s", got, told(calls))
		}
		if at := r.Intn(len(calls)); !calls[at].Put {
			calls[at] = get(string(rune('a'+r.Intn(6))), calls[at].From, calls[at].To)
			order, ok = firstFound(calls)
			same(t, calls, order, ok)
			if !ok {
				spoilt++
			}
		}
	}
	if spoilt < 100 {
		t.Errorf("too few that can't be explained: %d", spoilt)
	}
}

// TestWhatFollows: an open Put whose value no Get told, left out; and calls one behind the other.
func TestWhatFollows(t *testing.T) {
	r := rand.New(rand.NewSource(23))
	for range 3000 {
		calls := drawn(r, 1+r.Intn(20), 1+r.Intn(4), 1+r.Intn(20), 1+r.Intn(20))
		_, ok, _ := linear.One(calls)
		more := slices.Insert(slices.Clone(calls), r.Intn(len(calls)+1), open("untold", r.Intn(9), -1), open("untold too", r.Intn(9), 99))
		if _, also, e := linear.One(more); also != ok || e != api.OK {
			t.Fatalf("What follows: of %s One is %v, %d, and without the open Puts that no Get told %v", told(more), also, int(e), ok)
		}
	}
	for range 3000 {
		var calls []api.Call
		now, ok := "-", true
		for i := range 1 + r.Intn(24) {
			value := string(rune('a' + r.Intn(2)))
			switch k := r.Intn(9); {
			case k < 3:
				now = value
				calls = append(calls, put(value, 2*i, 2*i+1))
			case k < 8:
				calls = append(calls, get(now, 2*i, 2*i+1))
			default:
				ok = ok && now == value
				calls = append(calls, get(value, 2*i, 2*i+1))
			}
		}
		var order []int
		if ok {
			order = upTo(len(calls))
		}
		same(t, calls, order, ok)
	}
}

// TestWhoeverReturnedLater: that a call returns later, or is begun earlier, takes no order away.
func TestWhoeverReturnedLater(t *testing.T) {
	r := rand.New(rand.NewSource(24))
	for range 3000 {
		calls := drawn(r, 1+r.Intn(24), 1+r.Intn(4), 1+r.Intn(30), 1+r.Intn(8))
		order, ok, _ := linear.One(calls)
		at := r.Intn(len(calls))
		calls[at].From = r.Intn(calls[at].From + 1)
		if calls[at].To >= 0 {
			calls[at].To += r.Intn(9)
		}
		now, still, e := linear.One(calls)
		if e != api.OK || ok && (!still || slices.Compare(now, order) > 0) {
			t.Fatalf("P20.1: of %s One is %v, %v, %d, and was %v, with less freedom", told(calls), now, still, int(e), order)
		}
	}
}

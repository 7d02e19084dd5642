package linear_test

import (
	"fmt"
	"math"
	"slices"
	"strings"
	"testing"

	"sherd/api"
	"sherd/linear"
)

// put and get are calls that returned OK; value "-" of a Get: ErrAbsent.
func put(value string, from, to int) api.Call {
	return api.Call{Put: true, Value: []byte(value), From: from, To: to}
}

func open(value string, from, to int) api.Call {
	c := put(value, from, to)
	c.Open = true
	return c
}

func get(value string, from, to int) api.Call {
	if value == "-" {
		return api.Call{Status: api.ErrAbsent, From: from, To: to}
	}
	return api.Call{Value: []byte(value), From: from, To: to}
}

func ended(c api.Call, status api.Errno) api.Call {
	c.Status = status
	return c
}

func list(calls ...api.Call) []api.Call { return calls }

// told is calls as the chapter writes them.
func told(calls []api.Call) string {
	var lines []string
	for i, c := range calls {
		name, star := "G", ""
		if c.Put {
			name = "P"
		}
		if c.Open {
			star = "*"
		}
		lines = append(lines, fmt.Sprintf("%d: %s %q%s (%d) %d-%d", i, name, c.Value, star, int(c.Status), c.From, c.To))
	}
	return strings.Join(lines, ", ")
}

type seen struct {
	calls []api.Call
	order []int
	ok    bool
}

func check(t *testing.T, promise string, all []seen) {
	t.Helper()
	for _, x := range all {
		order, ok, e := linear.One(x.calls)
		if !slices.Equal(order, x.order) || ok != x.ok || e != api.OK {
			t.Errorf("%s: of %s One is %v, %v, %d, want %v, %v", promise, told(x.calls), order, ok, int(e), x.order, x.ok)
		}
	}
}

func TestExamplesOfTheChapter(t *testing.T) {
	check(t, "P20.1", []seen{
		{list(put("a", 0, 1), get("a", 2, 3)), []int{0, 1}, true},
		{list(put("a", 0, 1), get("-", 2, 3)), nil, false},
		{list(put("a", 0, 3), get("-", 1, 2)), []int{1, 0}, true},
		{list(put("a", 0, 3), get("a", 1, 2)), []int{0, 1}, true},
		{list(put("a", 0, 1), put("b", 2, 5), get("b", 3, 4), get("a", 6, 7)), nil, false},
		{list(put("a", 0, 1), put("b", 2, 5), get("a", 3, 4), get("b", 6, 7)), []int{0, 2, 1, 3}, true},
		{list(open("a", 0, -1), get("-", 1, 2)), []int{1}, true},
		{list(open("a", 0, -1), get("-", 1, 2), get("a", 3, 4)), []int{1, 0, 2}, true},
		{list(open("a", 0, -1), get("a", 1, 2), get("-", 3, 4)), nil, false},
		{list(put("a", 0, 1), put("a", 0, 1)), []int{0, 1}, true},
		{list(put("a", 0, 5), put("b", 1, 4), get("a", 2, 3), get("b", 6, 7)), []int{0, 2, 1, 3}, true},
		{list(ended(open("a", 0, 1), api.ErrFull), get("a", 2, 3)), []int{0, 1}, true},
		{list(get("x", 0, 1)), nil, false},
		{list(ended(get("x", 0, 1), api.ErrGone)), nil, true},
		{nil, nil, true},
		{list(), nil, true},
	})
}

// TestWhoHasAPart: each kind of call, alone and beside one that shows whether it stands there.
func TestWhoHasAPart(t *testing.T) {
	openGet := get("a", 2, 3)
	openGet.Open = true
	early := get("-", 0, 1)
	early.Open = true
	valued := get("-", 0, 1)
	valued.Value = []byte("a")
	check(t, "Words", []seen{
		{list(put("a", 0, -1)), []int{0}, true}, // not open: it must be in, though it has not returned
		{list(put("a", 0, -1), get("-", 9, 10)), []int{1, 0}, true},
		{list(put("a", 9, -1), put("b", 0, 1)), []int{1, 0}, true},
		{list(ended(put("a", 0, 1), api.ErrFull)), []int{0}, true}, // a Put's Status says nothing
		{list(ended(put("a", 0, 1), api.ErrAbsent), get("a", 2, 3)), []int{0, 1}, true},
		{list(ended(put("a", 0, 1), api.ErrGone), get("-", 2, 3)), nil, false},
		{list(ended(open("a", 0, 1), api.OK), get("-", 2, 3)), []int{1}, true},
		{list(open("a", 0, 1)), nil, true},
		{list(open("a", 0, -1)), nil, true},
		{list(get("a", 0, -1)), nil, true},
		{list(get("-", 0, -1)), nil, true},
		{list(put("b", 0, 1), get("a", 2, -1)), []int{0}, true},
		{list(put("b", 0, 1), get("-", 2, -1)), []int{0}, true},
		{list(put("b", 0, 1), ended(get("b", 2, 3), api.ErrFew)), []int{0}, true},
		{list(put("b", 0, 1), ended(get("a", 2, 3), api.ErrWrong)), []int{0}, true},
		{list(put("b", 0, 1), ended(get("a", 2, 3), api.ErrFull)), []int{0}, true},
		{list(put("b", 0, 1), ended(get("a", 2, 3), -1)), []int{0}, true},
		{list(put("a", 0, 1), openGet), []int{0, 1}, true}, // Open says nothing of a Get
		{list(put("b", 0, 1), openGet), nil, false},
		{list(put("a", 2, 3), early, openGet), []int{1, 0, 2}, true},
		{list(valued), []int{0}, true}, // nor does the Value of one that is ErrAbsent
		{list(put("a", 0, 1), valued), []int{1, 0}, true},
		{list(put("a", 0, 1), get("", 2, 3)), nil, false}, // no bytes are a value too
		{list(put("", 0, 1), get("", 2, 3)), []int{0, 1}, true},
		{list(get("", 0, 1)), nil, false},
		{list(put("", 0, 1), get("-", 2, 3)), nil, false},
	})
}

// TestWhoIsAheadForSure: one step more or less at each of the two ends.
func TestWhoIsAheadForSure(t *testing.T) {
	cancelled := ended(get("x", 0, 1), api.ErrGone)
	check(t, "Words", []seen{
		{list(put("a", 3, 4), put("b", 0, 2)), []int{1, 0}, true},
		{list(put("a", 3, 4), put("b", 0, 3)), []int{0, 1}, true}, // at the same number: neither is ahead
		{list(put("a", 3, 4), put("b", 0, -1)), []int{0, 1}, true},
		{list(put("a", 3, 4), open("b", 0, 1)), []int{0}, true},
		{list(put("a", 3, 4), open("b", 0, 1), get("b", 5, 6)), []int{0, 1, 2}, true}, // what its return says binds nothing
		{list(open("b", 0, 1), put("a", 3, 4), get("a", 5, 6)), []int{0, 1, 2}, true},
		{list(open("b", 3, -1), put("a", 0, 2), get("a", 4, 5)), []int{1, 2}, true}, // but it is not ahead of what returned before it
		{list(open("b", 3, -1), put("a", 0, 2), get("b", 4, 5)), []int{1, 0, 2}, true},
		{list(open("b", 3, -1), get("b", 0, 2)), nil, false},
		{list(open("b", 2, -1), get("b", 0, 2)), []int{0, 1}, true},
		{list(get("a", 3, 4), put("a", 0, 1)), []int{1, 0}, true},
		{list(get("a", 0, 1), put("a", 2, 3)), nil, false},
		{list(get("a", 0, 2), put("a", 2, 3)), []int{1, 0}, true},
		{list(put("a", 2, 3), get("-", 0, 1)), []int{1, 0}, true},
		{list(put("a", 2, 9), cancelled, get("a", 3, 4)), []int{0, 2}, true},
		{list(put("a", 0, math.MaxInt), put("b", math.MaxInt-1, math.MaxInt)), []int{0, 1}, true},
		{list(put("b", math.MaxInt, -1), put("a", math.MaxInt-2, math.MaxInt-1)), []int{1, 0}, true},
	})
}

// TestTheFirstOrder: where several explain the calls.
func TestTheFirstOrder(t *testing.T) {
	check(t, "P20.1", []seen{
		{list(open("a", 0, -1), put("b", 1, 2)), []int{0, 1}, true}, // 0 1 comes ahead of 1, and that of 1 0
		{list(put("b", 1, 2), open("a", 0, -1)), []int{0}, true},
		{list(open("a", 0, -1), open("b", 0, -1), put("c", 1, 2), open("d", 0, -1)), []int{0, 1, 2}, true},
		{list(open("a", 0, -1), put("c", 1, 2), get("c", 0, 9), open("b", 0, -1)), []int{0, 1, 2}, true},
		{list(put("a", 0, 9), put("b", 0, 9), get("a", 0, 9), get("b", 0, 9)), []int{0, 2, 1, 3}, true},
		{list(put("a", 0, 9), put("b", 0, 9), get("a", 0, 9), get("a", 0, 9)), []int{0, 2, 3, 1}, true},
		{list(put("a", 0, 9), put("a", 0, 9), put("b", 0, 9), get("a", 0, 9)), []int{0, 1, 3, 2}, true},
		{list(get("a", 0, 9), put("b", 0, 9), put("a", 0, 9)), []int{1, 2, 0}, true},
		{list(get("-", 0, 9), open("b", 0, -1), get("-", 0, 9)), []int{0, 2}, true},
		{list(get("b", 0, 9), get("-", 0, 9), open("b", 0, -1)), []int{1, 2, 0}, true},
		{list(open("b", 5, -1), put("c", 0, 1), put("d", 2, 9)), []int{1, 0, 2}, true},
		{list(get("x", 3, -1), put("c", 0, 1), ended(get("x", 3, 4), api.ErrPad), put("d", 2, 9)), []int{1, 3}, true}, // numbers are those of the list
	})
}

// TestWhatDoesNotCount: client, operation, key and tag.
func TestWhatDoesNotCount(t *testing.T) {
	calls := list(put("a", 0, 1), put("b", 2, 5), get("a", 3, 4), get("b", 6, 7))
	for i := range calls {
		calls[i].Client, calls[i].Op, calls[i].Key = i-1, int64(7-i), strings.Repeat("k", 70*i)
		calls[i].Tag = api.Tag{Count: int64(9 - i), Client: -i}
	}
	same := list(put("a", 0, 9), put("b", 0, 9), get("a", 0, 9))
	for i := range same {
		same[i].Client, same[i].Op = 1, 1
	}
	check(t, "P20.1", []seen{{calls, []int{0, 2, 1, 3}, true}, {same, []int{0, 2, 1}, true}})
}

// many is so many Puts, each behind the one ahead.
func many(count int) []api.Call {
	var calls []api.Call
	for i := range count {
		calls = append(calls, put("a", 2*i, 2*i+1))
	}
	return calls
}

func upTo(count int) []int {
	var numbers []int
	for i := range count {
		numbers = append(numbers, i)
	}
	return numbers
}

func TestRefused(t *testing.T) {
	fine := put("a", 0, 1)
	bystander := ended(get("x", 0, 1), api.ErrGone)
	var wrong []api.Call
	for _, x := range [][2]int{{-1, 1}, {-1, -1}, {math.MinInt, -1}, {-5, 9}, {3, 3}, {3, 2}, {3, 0}, {0, 0}, {0, -2}, {3, -2}, {0, math.MinInt}, {math.MaxInt, math.MaxInt}, {math.MaxInt, 0}} {
		for _, c := range list(put("a", 0, 1), open("a", 0, 1), get("a", 0, 1), get("-", 0, 1), bystander) {
			c.From, c.To = x[0], x[1]
			wrong = append(wrong, c)
		}
	}
	refused := func(calls []api.Call, want api.Errno) {
		t.Helper()
		if order, ok, e := linear.One(calls); len(order) != 0 || ok || e != want {
			t.Errorf("P20.1: of %s One is %v, %v, %d, want %d", told(calls), order, ok, int(e), int(want))
		}
	}
	for _, c := range wrong {
		refused(list(c), api.ErrArg)
		refused(list(fine, bystander, c), api.ErrArg)
		refused(list(c, fine, get("z", 2, 3)), api.ErrArg)
		refused(append(many(30), c), api.ErrArg) // ahead of ErrHeavy
		refused(append(list(c), many(25)...), api.ErrArg)
	}
	refused(many(25), api.ErrHeavy)
	refused(append(many(24), open("b", 0, -1)), api.ErrHeavy)
	refused(append(many(24), get("-", 0, 1)), api.ErrHeavy)
	refused(append(many(24), get("z", 0, 1)), api.ErrHeavy)
	refused(append(list(open("b", 0, -1), bystander), many(24)...), api.ErrHeavy)
	refused(many(1000), api.ErrHeavy)
}

// TestJustSoMany: as many as may have a part, and any number of those that have none.
func TestJustSoMany(t *testing.T) {
	calls := many(24)
	var numbers []int
	var mixed []api.Call
	for i, c := range calls {
		for range 50 {
			mixed = append(mixed, ended(get("x", 0, 1), api.ErrGone), get("x", 0, -1))
		}
		numbers = append(numbers, 100*(i+1)+i)
		mixed = append(mixed, c)
	}
	check(t, "P20.1", []seen{
		{calls, upTo(24), true},
		{append(many(23), open("b", 0, -1)), upTo(23), true},
		{append(many(23), get("a", 99, 100)), upTo(24), true},
		{append(many(23), get("b", 99, 100)), nil, false},
		{mixed, numbers, true},
	})
}

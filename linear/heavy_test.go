package linear_test

import (
	"slices"
	"strings"
	"testing"

	"sherd/api"
)

// beside is Puts of unlike values from one number to another, all beside one another.
func beside(count, from, to int) []api.Call {
	var calls []api.Call
	for i := range count {
		calls = append(calls, put("v"+string(rune('A'+i)), from, to))
	}
	return calls
}

// TestAsManyAsMayBe: MaxCalls calls of which most stand beside one another: to try all orders, or all sets of calls with each value, takes too long.
func TestAsManyAsMayBe(t *testing.T) {
	impossible := list(put("c", 0, 1), put("d", 2, 3), get("c", 4, 5))
	alike := beside(20, 0, 100)
	for i := range alike {
		alike[i].Value = []byte("same")
	}
	opened := beside(23, 0, 100)
	for i := range opened {
		opened[i].Open = true
	}
	readBack := beside(12, 0, 100)
	var paired []int
	for i, c := range readBack[:12] {
		paired = append(paired, i, 12+i)
		readBack = append(readBack, get(string(c.Value), 0, 100))
	}
	with := func(parts ...[]api.Call) []api.Call { return slices.Concat(parts...) }
	check(t, "P20.1", []seen{
		{beside(24, 0, 100), upTo(24), true},
		{with(beside(23, 0, 100), list(get("none's", 0, 100))), nil, false},
		{with(beside(23, 0, 100), list(get("-", 0, 100))), append([]int{23}, upTo(23)...), true},
		{with(beside(23, 0, 100), list(get("-", 101, 102))), nil, false},
		{with(beside(21, 0, 100), impossible), nil, false},
		{with(impossible, beside(21, 0, 100)), nil, false},
		{with(alike, impossible, list(get("same", 200, 201))), nil, false},
		{with(impossible, alike, list(get("same", 1, 2))), nil, false},
		{opened, nil, true},
		{with(opened, list(put("x", 0, 1))), upTo(24), true},
		{with(list(put("x", 0, 1)), opened), []int{0}, true},
		{with(opened, list(get("none's", 0, 1))), nil, false},
		{with(opened, list(get("-", 200, 201))), []int{23}, true},
		{with(opened[:22], list(get("vA", 200, 201), get("vB", 200, 201))), []int{0, 22, 1, 23}, true},
		{with(opened[:22], list(get("vV", 200, 201), get("vA", 202, 203))), append(append(upTo(22)[1:], 22, 0), 23), true},
		{readBack, paired, true},
		{with(readBack[:11], readBack[12:23], list(get("vK", 101, 102), get("vA", 103, 104))), nil, false},
	})
}

// TestWhoMustReturnFirst: Puts of one value, of which an early one is needed by all that come later.
func TestWhoMustReturnFirst(t *testing.T) {
	check(t, "P20.1", []seen{
		{list(put("a", 0, 9), put("a", 0, 2), put("b", 3, 4), get("a", 5, 6)), []int{1, 2, 0, 3}, true},
		{list(put("a", 0, 2), put("a", 0, 9), put("b", 3, 4), get("a", 5, 6)), []int{0, 2, 1, 3}, true},
		{list(open("a", 0, -1), put("a", 0, 2), put("b", 3, 4), get("a", 5, 6)), []int{1, 2, 0, 3}, true},
		{list(open("a", 0, 1), put("a", 0, 2), get("a", 1, 2), put("b", 3, 4), get("a", 5, 6)), []int{1, 2, 3, 0, 4}, true},
		{list(put("a", 0, -1), put("a", 0, 2), get("a", 1, 2), put("b", 3, 4), get("a", 5, 6)), []int{1, 2, 3, 0, 4}, true},
		{list(put("a", 0, 2), put("a", 0, 2), get("a", 1, 2), put("b", 3, 4), get("a", 5, 6)), nil, false},
		{list(open("a", 0, -1), open("a", 0, -1), get("a", 1, 2), put("b", 3, 4), get("a", 5, 6)), []int{0, 2, 3, 1, 4}, true},
		{list(open("a", 0, -1), open("a", 4, -1), get("a", 1, 2), put("b", 3, 4), get("a", 5, 6)), []int{0, 2, 3, 1, 4}, true},
		{list(open("a", 0, -1), open("a", 7, -1), get("a", 1, 2), put("b", 3, 4), get("a", 5, 6)), nil, false},
	})
}

// TestLongValues: of as many bytes as may be, alike but for the last one; and such as have no text.
func TestLongValues(t *testing.T) {
	long := strings.Repeat("x", api.MaxValue-1)
	check(t, "P20.1", []seen{
		{list(put(long+"a", 0, 1), get(long+"a", 2, 3)), []int{0, 1}, true},
		{list(put(long+"a", 0, 1), get(long+"b", 2, 3)), nil, false},
		{list(put(long+"a", 0, 1), get(long, 2, 3)), nil, false},
		{list(put(long+"a", 0, 9), put(long+"b", 0, 9), get(long+"a", 0, 9)), []int{0, 2, 1}, true},
		{list(put("\x00", 0, 9), put("", 0, 9), get("\x00", 0, 9)), []int{0, 2, 1}, true},
		{list(put("\xff\xfe", 0, 9), put("\xff\xfd", 0, 9), get("\xff\xfe", 0, 9)), []int{0, 2, 1}, true},
	})
}

package order

import (
	"cmp"
	"slices"

	"sherd/api"
	"sherd/tag"
)

// ByTags is the order that the tags tell.
func ByTags(calls []api.Call) ([]int, api.Errno) {
	if !areFit(calls) {
		return nil, api.ErrArg
	}
	byFrom := func(a, b int) int {
		return cmp.Or(cmp.Compare(calls[a].From, calls[b].From), cmp.Compare(a, b))
	}
	byTag := func(a, b int) int {
		return cmp.Or(tag.Compare(calls[a].Tag, calls[b].Tag), byFrom(a, b))
	}
	order := sorted(calls, isAbsent, byFrom)
	silent := silentPuts(calls)
	for left := sorted(calls, hasTag, byTag); len(left) > 0; {
		size := countAlike(calls, left)
		part, explained := ofOneTag(calls, left[:size], silent)
		if !explained {
			return nil, api.ErrOrder
		}
		order = append(order, part...)
		left = left[size:]
	}
	return order, api.OK
}

// sorted is the numbers of the calls of a kind, in an order of them.
func sorted(calls []api.Call, isOfKind func(api.Call) bool, compare func(a, b int) int) []int {
	var numbers []int
	for i, c := range calls {
		if isOfKind(c) {
			numbers = append(numbers, i)
		}
	}
	slices.SortFunc(numbers, compare)
	return numbers
}

// hasTag tells whether a call tells a tag by itself: a Get by what it read, a Put by what it chose.
func hasTag(c api.Call) bool {
	if c.Open {
		return !tag.Zero(c.Tag)
	}
	return c.Put || isRead(c)
}

// silentPuts is of each client the last of its open Puts that tell no tag: that one alone can have chosen one.
func silentPuts(calls []api.Call) map[int]int {
	last := map[int]int{}
	for i, c := range calls {
		if c.Open && tag.Zero(c.Tag) {
			last[c.Client] = i
		}
	}
	return last
}

// countAlike is how many of the numbers, from the first on, are of calls with one tag.
func countAlike(calls []api.Call, numbers []int) int {
	first := calls[numbers[0]].Tag
	next := slices.IndexFunc(numbers, func(i int) bool { return calls[i].Tag != first })
	if next < 0 {
		return len(numbers)
	}
	return next
}

// ofOneTag is what the calls of one tag bring into the order: the Put that is taken, and behind it the Gets; nothing, if all are open Puts that nobody read. A silent Put that was found to have a tag is silent no more: it would have two by the next one.
func ofOneTag(calls []api.Call, alike []int, silent map[int]int) ([]int, bool) {
	var puts, gets []int
	for _, i := range alike {
		if calls[i].Put {
			puts = append(puts, i)
		} else {
			gets = append(gets, i)
		}
	}
	t := calls[alike[0]].Tag
	if len(gets) == 0 {
		puts = slices.DeleteFunc(puts, func(i int) bool { return calls[i].Open })
	} else if last, is := silent[t.Client]; is && len(puts) == 0 {
		puts = append(puts, last)
		delete(silent, t.Client)
	}
	if len(puts) == 0 && len(gets) == 0 {
		return nil, true
	}
	if len(puts) != 1 || !isProper(t) {
		return nil, false
	}
	return append(puts, gets...), true
}

func isProper(t api.Tag) bool { return tag.Valid(t) && !tag.Zero(t) }

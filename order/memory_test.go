package order_test

import (
	"bytes"
	"math/rand"
	"slices"
	"sync"
	"testing"

	"sherd/api"
	"sherd/order"
)

// roomy: a copy with spare room behind, which is filled; so have its values.
func roomy(calls []api.Call) []api.Call {
	all := slices.Concat(calls, list(put("room", 7, 8, tg(7, 7)), get("room", -7, -8, tg(8, 8)), open("room", 1, 1, tg(0, 0))))
	for i := range all {
		all[i].Value = append(slices.Clone(all[i].Value), 0xee, 0xee)[:len(all[i].Value)]
	}
	return all[:len(calls)]
}

// deep is all of a list, and of its spare room, in memory of its own.
func deep(calls []api.Call) []api.Call {
	all := slices.Clone(calls[:cap(calls)])
	for i := range all {
		all[i].Value = bytes.Clone(all[i].Value[:cap(all[i].Value)])
	}
	return all
}

func sameCalls(a, b []api.Call) bool {
	return slices.EqualFunc(a, b, func(c, d api.Call) bool {
		sameValue := bytes.Equal(c.Value, d.Value)
		return sameValue && c.Client == d.Client && c.Op == d.Op && c.Put == d.Put && c.Key == d.Key && c.Status == d.Status && c.From == d.From && c.To == d.To && c.Open == d.Open && c.Tag == d.Tag
	})
}

func TestWhatIsGivenIsNotChanged(t *testing.T) {
	r := rand.New(rand.NewSource(215))
	for range 2000 {
		calls := drawn(r, 1+r.Intn(9), 1+r.Intn(3), 1+r.Intn(9))
		if r.Intn(3) == 0 {
			calls, _ = lived(r, 1+r.Intn(30), 3, 9)
		}
		if len(calls) > 0 && r.Intn(9) == 0 {
			spoil(r, calls)
		}
		given := roomy(calls)
		before := deep(given)
		o := append(drawnOrder(r, given), 7, 8, 9)
		was := slices.Clone(o)
		order.Check(given, o[:len(o)-3])
		order.Check(given, o)
		found, e := order.ByTags(given)
		if e == api.OK {
			order.Check(given, found)
		}
		if !sameCalls(deep(given), before) || !slices.Equal(o, was) {
			t.Fatalf("P2: what was given was changed: %s, %v", told(given), o)
		}
	}
}

func TestOrdersAreNewMemory(t *testing.T) {
	calls := list(put("a", 0, 1, tg(1, 1)), put("b", 2, 5, tg(2, 2)), get("a", 3, 4, tg(1, 1)), get("b", 6, 7, tg(2, 2)), none(0, 1))
	want := []int{4, 0, 2, 1, 3}
	first, _ := order.ByTags(calls)
	second, _ := order.ByTags(calls)
	for i := range first[:cap(first)] {
		first[:cap(first)][i] = -9
	}
	if !slices.Equal(second, want) {
		t.Errorf("P2: two orders share memory: %v", second)
	}
	tags(t, calls, want...)
	for i := range calls { // what was given is not kept
		calls[i] = api.Call{From: -1}
	}
	if !slices.Equal(second, want) {
		t.Errorf("P2: an order changed with what was given: %v", second)
	}
}

// TestTheSameEachTime: nothing hangs on a map's order, nor on who asks beside.
func TestTheSameEachTime(t *testing.T) {
	r := rand.New(rand.NewSource(216))
	var calls []api.Call
	for i := range 200 {
		calls = append(calls, open("a", 1+i, 0, tg(0, 0)), get("a", r.Intn(9), 9, tg(int64(1+r.Intn(9)), 1+i)), get("a", r.Intn(9), 9, tg(5, 300)), none(r.Intn(9), 9))
	}
	calls = append(calls, put("a", 0, 9, tg(5, 300)))
	want, why := tagsByWords(calls)
	explained := checkByWords(calls, want)
	var group sync.WaitGroup
	for range 8 {
		group.Go(func() {
			for range 20 {
				if o, e := order.ByTags(calls); e != why || e != api.OK || !slices.Equal(o, want) {
					t.Errorf("P3: ByTags is %v, %d, want %v, %d", o, int(e), want, int(why))
				}
				if e := order.Check(calls, want); e != explained {
					t.Errorf("P3: Check is %d, want %d", int(e), int(explained))
				}
			}
		})
	}
	group.Wait()
}

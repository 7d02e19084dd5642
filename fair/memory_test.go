package fair_test

import (
	"fmt"
	"math/rand/v2"
	"slices"
	"testing"

	"sherd/api"
	"sherd/fair"
)

// roomy is a list like it, with spare room behind it in which something stands.
func roomy(order []int) []int {
	l := append(slices.Clone(order), 71, 72, 73)
	return l[:len(order)]
}

func whole(l []int) string { return fmt.Sprint(len(l), l[:cap(l)]) }

func scrawl(l []int) {
	for i := range l[:cap(l)] {
		l[:cap(l)][i] = 1
	}
}

// TestListsAreLeft: neither an order nor its spare room is changed, nor the list of orders; and none is kept.
func TestListsAreLeft(t *testing.T) {
	r := rand.New(rand.NewPCG(23, 5))
	for range 200 {
		w := newWorld(t, r, drawConfig(r), 1+r.IntN(4), seen{})
		w.play(r.IntN(100))
		twin := w.c.Copy()
		order := roomy(w.order())
		before := whole(order)
		w.round(order)
		if whole(order) != before {
			t.Fatalf("P23.3: Round has changed the order %s to %s", before, whole(order))
		}
		fair.Round(twin, order)
		scrawl(order)
		orders := [][]int{roomy(w.order()), nil, roomy(w.order()), roomy(w.order()), {}}
		room := orders[:3:4]
		before = fmt.Sprint(whole(orders[0]), whole(orders[2]), orders)
		w.until(6, room...)
		if got := fmt.Sprint(whole(orders[0]), whole(orders[2]), orders); got != before {
			t.Fatalf("P23.3: Until has changed the orders %s to %s", before, got)
		}
		fair.Until(twin, 6, room...)
		for _, l := range orders {
			scrawl(l)
		}
		w.round(nil)
		fair.Round(twin, nil)
		if twin.State() != w.c.State() {
			t.Fatalf("P23.3: an order that was handed in is kept")
		}
	}
}

// TestNoListIsNoOrder: none and one without elements are the same.
func TestNoListIsNoOrder(t *testing.T) {
	r := rand.New(rand.NewPCG(23, 6))
	for range 50 {
		w := newWorld(t, r, drawConfig(r), 1+r.IntN(4), seen{})
		w.play(r.IntN(100))
		twin := w.c.Copy()
		es, e := fair.Round(w.c, nil)
		fs, f := fair.Round(twin, []int{})
		if e != f || !sameEvents(es, fs) || w.c.State() != twin.State() {
			t.Fatalf("P2: Round by none is %v, by an empty list %v", es, fs)
		}
		n, ok, e := fair.Until(w.c, 4)
		m, is, f := fair.Until(twin, 4, nil, []int{})
		if n != m || ok != is || e != f || w.c.State() != twin.State() {
			t.Fatalf("P2: Until by none is %d, %v, by empty lists %d, %v", n, ok, m, is)
		}
	}
}

// TestEventsAreNew: who writes into a round's events writes into nothing else.
func TestEventsAreNew(t *testing.T) {
	c := made(t, api.Config{N: 1, K: 1}, 4)
	do(t, c, put(1, "k", "value"))
	until(t, c, 9, 6, true)
	do(t, c, get(2, "k"), get(3, "k"), get(4, "k"))
	until(t, c, 3, 3, false)
	es := round(t, c)
	if len(es) != 3 {
		t.Fatalf("the test says little: the events are %v", es)
	}
	state, history := c.State(), fmt.Sprint(c.History())
	for i := range es {
		if string(es[i].Value) != "value" {
			t.Errorf("P2: two events share memory: %v", es)
		}
		for j := range es[i].Value[:cap(es[i].Value)] {
			es[i].Value[:cap(es[i].Value)][j] = 'x'
		}
		es[i].Key = "scrawl"
	}
	es = append(es, api.Event{Kind: 77})
	if c.State() != state || fmt.Sprint(c.History()) != history {
		t.Errorf("P2: who writes into a round's events writes into the cluster")
	}
	do(t, c, get(2, "k"))
	until(t, c, 3, 3, false)
	if es := round(t, c); len(es) != 1 || string(es[0].Value) != "value" {
		t.Errorf("P2: behind that a Get is %v", es)
	}
}

// TestStateAlone: clusters in the same state go on alike, whatever their histories; others see nothing of it.
func TestStateAlone(t *testing.T) {
	a, b, other := made(t, api.Config{N: 2, K: 1}, 2), made(t, api.Config{N: 2, K: 1}, 2), made(t, api.Config{N: 2, K: 1}, 2)
	do(t, a, get(1, "k"), api.Step{Kind: api.SCancel, A: 1})
	do(t, b, get(1, "j"), api.Step{Kind: api.SCancel, A: 1})
	empty(t, a)
	empty(t, b)
	do(t, other, put(2, "k", "v"))
	state := other.State()
	for _, s := range []api.Step{put(1, "k", "v"), get(2, "k")} {
		do(t, a, s)
		do(t, b, s)
	}
	if a.State() != b.State() || sameEvents(a.History(), b.History()) {
		t.Fatal("the test is wrong")
	}
	for i := range 9 {
		es, fs := round(t, a, i, -i, 2), round(t, b, i, -i, 2)
		if !sameEvents(es, fs) || a.State() != b.State() {
			t.Errorf("P23.3: from the same state come %v and %v", es, fs)
		}
	}
	if other.State() != state {
		t.Errorf("P5: another cluster has seen it")
	}
}

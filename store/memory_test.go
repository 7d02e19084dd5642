package store_test

import (
	"fmt"
	"math/rand/v2"
	"slices"
	"sync"
	"testing"

	"sherd/api"
	"sherd/store"
)

// room is a list like it, with spare room behind it in which something stands.
func room[T any](list []T, spare ...T) []T {
	return append(slices.Clone(list), spare...)[:len(list)]
}

// fill writes over a list, and its spare room.
func fill[T any](list []T, with T) {
	list = list[:cap(list)]
	for i := range list {
		list[i] = with
	}
}

func whole[T any](list []T) string { return fmt.Sprint(len(list), list[:cap(list)]) }

// rough hands a store lists with spare room, looks whether they are left as they were, and writes over all of them, and over all that is answered.
type rough struct {
	*pair
}

func left[T any](t *testing.T, call string, list []T, before string) {
	t.Helper()
	if got := whole(list); got != before {
		t.Fatalf("P28.10: %s has changed what was handed in from %s to %s", call, before, got)
	}
}

func (r rough) Put(key string, value []byte) api.Errno {
	r.t.Helper()
	given := room(value, 0xee, 0xed, 0xec, 0xeb)
	before := whole(given)
	r.say("put ", key, value)
	e := r.s.Put(key, given)
	left(r.t, "Put", given, before)
	fill(given, 0xaa)
	r.status(e, r.put(key, value))
	r.scrawl()
	return e
}

func (r rough) Get(key string) ([]byte, api.Errno) {
	r.t.Helper()
	value, e := r.pair.Get(key)
	again, f := r.pair.Get(key)
	fill(value, 0xaa)
	fill(again, 0xbb)
	if e != f || slices.Contains(value[:cap(value)], 0xbb) {
		r.t.Fatalf("P28.10: the values of two Gets, %d and %d, share memory", int(e), int(f))
	}
	r.scrawl()
	return nil, e
}

func (r rough) Noise(choices []int) {
	r.t.Helper()
	given := room(choices, 71, 72, 73)
	before := whole(given)
	r.pair.Noise(given)
	left(r.t, "Noise", given, before)
	fill(given, 1)
	r.noise = slices.Clone(choices)
}

func (r rough) Do(s api.Step) api.Errno {
	r.t.Helper()
	given := s
	given.L = room(s.L, 71, 72, 73)
	before := whole(given.L)
	e := r.pair.Do(given)
	left(r.t, "Crash", given.L, before)
	fill(given.L, 1)
	return e
}

// scrawl writes into the history that is told, of which no two lists may share memory.
func (r rough) scrawl() {
	r.t.Helper()
	es, fs := r.s.History(), r.s.History()
	all := append(slices.Clone(es), fs...)
	for i, e := range all {
		fill(e.Value, byte(i))
	}
	for i, e := range all {
		for _, b := range e.Value[:cap(e.Value)] {
			if b != byte(i) {
				r.t.Fatalf("P28.10: two values of a history share memory")
			}
		}
	}
	fill(es, api.Event{Kind: 99})
	if len(fs) > 0 && fs[0].Kind == 99 {
		r.t.Fatalf("P28.10: two histories share memory")
	}
	r.history()
}

// TestMemory: long lists of calls, in which all that is handed in and all that is answered is written over, beside a paper that sees nothing of it.
func TestMemory(t *testing.T) {
	r := rand.New(rand.NewPCG(28, 4))
	n := seen{}
	for range 150 {
		p := rough{newPair(t, drawConfig(r), n)}
		d := newDrawer(r, p.config)
		for range r.IntN(40) {
			d.call(p)
		}
	}
	n.atLeast(t, 100, "get 0", "noise", "step 12 0")
}

// TestKept: what was put is what stood in the list at that time.
func TestKept(t *testing.T) {
	s := made(t, 3, 2, 0)
	value := []byte("before")
	s.Put("k", value)
	copy(value, "behind")
	get(t, s, "k", "before", api.OK)
	noise := []int{0, 0, 0}
	s.Noise(noise)
	fill(noise, 1)
	get(t, s, "j", "", api.ErrAbsent)
	rounds(t, s, 2)
	noise = []int{1, 1, 1, 1, 1, 1}
	s.Noise(noise)
	fill(noise, 0)
	get(t, s, "j", "", api.ErrAbsent)
	rounds(t, s, 3) // three late answers and the three requests are lost
}

// played is what a store answers to drawn calls.
func played(t *testing.T, seed uint64, between func()) string {
	t.Helper()
	r := rand.New(rand.NewPCG(28, seed))
	config := drawConfig(r)
	j := newJudge(t, config, seen{})
	d := newDrawer(r, config)
	var told []string
	for range 30 {
		d.call(j)
		told = append(told, fmt.Sprint(j.s.Up(), j.s.Rounds(), j.s.Bytes()))
		between()
	}
	return fmt.Sprint(told, j.s.History(), j.s.Inside().State())
}

// TestOthers: two stores, told things in turn, answer what each answers alone; so do stores of which each has its goroutine.
func TestOthers(t *testing.T) {
	other := newJudge(t, api.Config{N: 3, K: 1}, seen{})
	d := newDrawer(rand.New(rand.NewPCG(28, 5)), other.config)
	var alone []string
	for seed := range uint64(40) {
		alone = append(alone, played(t, seed, func() {}))
		if got := played(t, seed, func() { d.call(other) }); got != alone[seed] {
			t.Fatalf("P28.10: beside another a store tells %s, alone %s", got, alone[seed])
		}
	}
	beside := make([]string, len(alone))
	var group sync.WaitGroup
	for seed := range beside {
		group.Go(func() { beside[seed] = played(t, uint64(seed), func() {}) })
	}
	group.Wait()
	if !slices.Equal(beside, alone) {
		t.Errorf("P28.10: beside others stores tell something else")
	}
}

// TestNotRunWild: whatever it is given, each call ends and none panics.
func TestNotRunWild(t *testing.T) {
	r := rand.New(rand.NewPCG(28, 6))
	for range 200 {
		n := r.IntN(300) - 20
		config := api.Config{N: n, K: r.IntN(300) - 20, Delta: int(r.Uint64())}
		s, e := store.Open(config)
		may := 1 <= config.K && config.K <= n && n <= 255 && config.Delta >= 0 && config.Delta <= api.MaxDelta
		if (e == api.OK) != may || (s != nil) != may || !may && e != api.ErrConfig {
			t.Fatalf("P28.1: Open of %+v is %v, %d", config, s, int(e))
		}
		d := newDrawer(r, api.Config{N: max(n, 1)})
		for range 5 {
			s.Crash(d.server(), d.list())
			s.Noise(d.noise())
			if e := s.Put("k", []byte("v")); s == nil && e != api.ErrState {
				t.Fatalf("P28.2: Put of none is %d", int(e))
			}
			s.Get("k")
			s.Start(d.server())
			s.Compact(d.server())
		}
	}
}

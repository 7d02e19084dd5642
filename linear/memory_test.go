package linear_test

import (
	"bytes"
	"math/rand"
	"runtime"
	"slices"
	"sync"
	"testing"
	"time"

	"sherd/api"
	"sherd/linear"
)

// roomy: a copy with spare room behind, which is filled; so have its values.
func roomy(calls []api.Call) []api.Call {
	all := slices.Concat(calls, list(put("room", 7, 8), get("room", -7, -8), open("room", 1, 1)))
	for i := range all {
		all[i].Value = append(slices.Clone(all[i].Value), 0xee, 0xee)[:len(all[i].Value)]
	}
	return all[:len(calls)]
}

// deep is all of a list, and of its spare room, in memory of its own.
func deep(calls []api.Call) []api.Call {
	all := slices.Clone(calls[:cap(calls)])
	for i := range all {
		all[i].Value = bytes.Clone(all[i].Value[:cap(all[i].Value)])
	}
	return all
}

func sameCalls(a, b []api.Call) bool {
	return slices.EqualFunc(a, b, func(c, d api.Call) bool {
		sameValue := bytes.Equal(c.Value, d.Value)
		return sameValue && c.Client == d.Client && c.Op == d.Op && c.Put == d.Put && c.Key == d.Key && c.Status == d.Status && c.From == d.From && c.To == d.To && c.Open == d.Open && c.Tag == d.Tag
	})
}

func TestCallsAreNotChanged(t *testing.T) {
	r := rand.New(rand.NewSource(26))
	wrong := drawn(r, 5, 2, 9, 9)
	wrong[4].To = -4
	for _, calls := range [][]api.Call{nil, drawn(r, 4, 2, 9, 9), lived(r, 24, 3, 9), wrong, many(30)} {
		given := roomy(calls)
		before := deep(given)
		linear.One(given)
		if !sameCalls(deep(given), before) {
			t.Errorf("P20.3: what was given was changed: %s", told(given))
		}
	}
}

func TestEventsAreNotChanged(t *testing.T) {
	r := rand.New(rand.NewSource(27))
	for range 50 {
		es := drawnHistory(r, 3, 3, 40, 9)
		es = append(es, api.Event{Kind: 9, Value: []byte("room")})
		for i := range es {
			es[i].Value = append(slices.Clone(es[i].Value), 0xee)[:len(es[i].Value)]
		}
		want := slices.Clone(es)
		for i := range want {
			want[i].Value = bytes.Clone(es[i].Value[:cap(es[i].Value)])
		}
		linear.All(es[:len(es)-1])
		linear.All(es)
		for i, e := range es {
			w := want[i]
			if !bytes.Equal(e.Value[:cap(e.Value)], w.Value) || e.Kind != w.Kind || e.Client != w.Client || e.Op != w.Op || e.Put != w.Put || e.Key != w.Key || e.Status != w.Status || e.Tag != w.Tag {
				t.Fatalf("P20.3: event %d was changed: %v, was %v", i, e, w)
			}
		}
	}
}

func TestOrdersAreNewMemory(t *testing.T) {
	calls := list(put("a", 0, 1), put("b", 2, 5), get("a", 3, 4), get("b", 6, 7))
	want := []int{0, 2, 1, 3}
	first, _, _ := linear.One(calls)
	second, _, _ := linear.One(calls)
	first = first[:cap(first)]
	for i := range first {
		first[i] = -9
	}
	if !slices.Equal(second, want) {
		t.Errorf("P20.3: two orders share memory: %v", second)
	}
	if third, ok, e := linear.One(calls); !slices.Equal(third, want) || !ok || e != api.OK {
		t.Errorf("P20.3: an order that was written into is told again: %v", third)
	}
	for i := range calls { // what was given is not kept
		calls[i].Value[0] = 'z'
		calls[i] = api.Call{From: -1}
	}
	if !slices.Equal(second, want) {
		t.Errorf("P20.3: an order changed with what was given: %v", second)
	}
	check(t, "P20.3", []seen{{list(put("a", 0, 1), put("b", 2, 5), get("a", 3, 4), get("b", 6, 7)), want, true}})
}

// TestHoweverGoroutinesRun: on one thread and on many, alone and beside others, again and again.
func TestHoweverGoroutinesRun(t *testing.T) {
	defer runtime.GOMAXPROCS(runtime.GOMAXPROCS(0))
	b := newBook() // the first keys take longest, so that they come last
	for _, c := range []string{"a", "b"} {
		for i := range 11 {
			b.begin(1+i, true, c, string(rune('a'+i)))
			b.begin(21+i, false, c, "")
		}
		for i := range 11 {
			b.end(1+i, api.OK, "")
			b.end(21+i, api.OK, string(rune('a'+i)))
		}
		b.get(1, c, "k")
		b.get(1, c, "a")
	}
	for c := 'c'; c <= 'z'; c++ {
		b.get(1, string(c), "x")
		b.heavy(2, string(c)+"h")
	}
	for _, threads := range []int{1, 2, 3, 8} {
		runtime.GOMAXPROCS(threads)
		var group sync.WaitGroup
		for range 8 {
			group.Go(func() {
				for range 5 {
					if key, ok, e := linear.All(b.es); key != "a" || ok || e != api.OK {
						t.Errorf("P20.3: with %d threads All is %q, %v, %d", threads, key, ok, int(e))
					}
				}
			})
		}
		group.Wait()
	}
}

// TestNoGoroutineIsLeft: all have ended when All answers, wherever it was decided.
func TestNoGoroutineIsLeft(t *testing.T) {
	before := runtime.NumGoroutine()
	r := rand.New(rand.NewSource(28))
	for range 200 {
		linear.All(drawnHistory(r, 9, 40, 300, 9))
	}
	for range 2000 { // one that has said its last may still be on its way out
		if runtime.NumGoroutine() <= before {
			return
		}
		time.Sleep(time.Millisecond)
	}
	t.Errorf("P20.3: %d goroutines, %d ahead of it", runtime.NumGoroutine(), before)
}

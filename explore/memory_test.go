package explore_test

import (
	"bytes"
	"runtime"
	"slices"
	"sync"
	"testing"
	"time"

	"sherd/api"
	"sherd/explore"
)

// roomy is a plan whose lists have spare room in which something stands, and some steps that were done.
func roomy() (explore.Plan, []api.Step) {
	room := func(s api.Step) api.Step {
		s.Value = append(bytes.Clone(s.Value), "room"...)[:len(s.Value)]
		s.L = append(slices.Clone(s.L), 71, 72, 73)[:len(s.L)]
		return s
	}
	list := func(steps ...api.Step) []api.Step {
		for i := range steps {
			steps[i] = room(steps[i])
		}
		return append(steps, room(put(9, "room", "room")))[:len(steps)]
	}
	odd := api.Step{Kind: api.SGet, A: 2, B: 4, Key: "k", Value: []byte("odd"), L: []int{5, 6}}
	clients := append([][]api.Step{list(put(1, "k", "value"), tick(1), get(1, "k")), list(odd, tick(2)), list()}, list(tick(4)))[:3]
	done := list(put(1, "k", "value"), deliver(0), odd, crash(0), start(0), tick(1), drop(0))
	return explore.Plan{Config: one, Clients: clients, Depth: 8, Drops: 1, Crashes: 1}, done
}

// deep is all of a list, and of its spare room, in memory of its own.
func deep(steps []api.Step) []api.Step {
	all := slices.Clone(steps[:cap(steps)])
	for i := range all {
		all[i].Value = bytes.Clone(all[i].Value[:cap(all[i].Value)])
		all[i].L = slices.Clone(all[i].L[:cap(all[i].L)])
	}
	return all
}

// copied is a list in memory of its own.
func copied(steps []api.Step) []api.Step {
	all := slices.Clone(steps)
	for i := range all {
		all[i].Value, all[i].L = bytes.Clone(all[i].Value), slices.Clone(all[i].L)
	}
	return all
}

func deepPlan(p explore.Plan) [][]api.Step {
	var all [][]api.Step
	for _, own := range p.Clients[:cap(p.Clients)] {
		all = append(all, deep(own))
	}
	return all
}

func sameSteps(a, b []api.Step) bool { return slices.EqualFunc(a, b, sameStep) }

// spoil writes over all of a list, and its spare room.
func spoil(steps []api.Step) {
	for i, s := range steps[:cap(steps)] {
		for j := range s.Value[:cap(s.Value)] {
			s.Value[:cap(s.Value)][j] ^= 0xff
		}
		for j := range s.L[:cap(s.L)] {
			s.L[:cap(s.L)][j] = -77
		}
		steps[:cap(steps)][i] = api.Step{Kind: 99}
	}
}

func TestWhatIsGivenIsNotChanged(t *testing.T) {
	p, done := roomy()
	plans, before := deepPlan(p), deep(done)
	for n := range len(done) + 1 {
		if _, e := explore.Next(p, done[:n]); e != api.OK {
			t.Fatalf("Next behind %d steps is %d", n, int(e))
		}
	}
	if _, e := explore.Next(p, append(slices.Clone(done), deliver(99))); e != api.ErrOrder {
		t.Fatalf("Next is %d", int(e))
	}
	for _, depth := range []int{8, 99} {
		p.Depth = depth
		if _, e := explore.All(p); e != api.OK && e != api.ErrHeavy {
			t.Fatalf("All is %d", int(e))
		}
	}
	p.Drops = -1
	explore.All(p)
	explore.Next(p, done)
	if !slices.EqualFunc(deepPlan(p), plans, sameSteps) || !sameSteps(deep(done), before) {
		t.Errorf("E1: what was given was changed")
	}
}

// TestWhatIsToldIsNewMemory: who writes into what Next told, or into what it was given, writes into nothing else.
func TestWhatIsToldIsNewMemory(t *testing.T) {
	p, done := roomy()
	for n := range len(done) + 1 {
		p, done := roomy()
		plans, before := deepPlan(p), deep(done)
		first, _ := explore.Next(p, done[:n])
		other, _ := explore.Next(p, done[:n])
		want := copied(other)
		for i := range first {
			spoil(first[i : i+1 : i+1])
			if !sameSteps(first[i+1:], want[i+1:]) {
				t.Fatalf("E1: behind %d steps the lists of step %d share memory with another's", n, i)
			}
		}
		spoil(first)
		if !slices.EqualFunc(deepPlan(p), plans, sameSteps) || !sameSteps(deep(done), before) || !sameSteps(other, want) {
			t.Fatalf("E1: what is told behind %d steps shares memory with what was given or told", n)
		}
		for _, own := range p.Clients {
			spoil(own)
		}
		spoil(done)
		if !sameSteps(other, want) {
			t.Fatalf("E1: what was told behind %d steps changed with what was given", n)
		}
	}
	all, e := explore.All(p)
	q, _ := roomy()
	explore.All(q)
	for _, own := range q.Clients {
		spoil(own)
	}
	if again, f := explore.All(p); e != f || again.States != all.States || again.Ends != all.Ends || again.Deep != all.Deep {
		t.Errorf("E1: All is %+v, %d, and then %+v, %d", all, int(e), again, int(f))
	}
	if got, e := explore.Next(p, done); e != api.OK || len(got) == 0 {
		t.Errorf("the test says little: Next is %s, %d", text(got), int(e))
	}
}

// TestBesideEachOther: two calls have nothing to do with each other, though they are given the same plan.
func TestBesideEachOther(t *testing.T) {
	p, done := roomy()
	want, e := explore.All(p)
	next, f := explore.Next(p, done)
	if e != api.OK || f != api.OK {
		t.Fatalf("All is %d, Next %d", int(e), int(f))
	}
	var group sync.WaitGroup
	fine := make([]bool, 16)
	for i := range fine {
		group.Go(func() {
			got, e := explore.All(p)
			steps, f := explore.Next(p, done)
			fine[i] = e == api.OK && f == api.OK && got.States == want.States && got.Ends == want.Ends && got.Deep == want.Deep && len(got.Bad) == 0 && sameSteps(steps, next)
		})
	}
	group.Wait()
	if slices.Contains(fine, false) {
		t.Errorf("P3: beside others another answer is told")
	}
}

// roomOf is how much memory was in use at most while something was done.
func roomOf(do func()) uint64 {
	runtime.GC()
	done, most := make(chan struct{}), make(chan uint64)
	go func() {
		var peak uint64
		for {
			var m runtime.MemStats
			runtime.ReadMemStats(&m)
			peak = max(peak, m.HeapInuse)
			select {
			case <-done:
				most <- peak
				return
			case <-time.After(time.Millisecond):
			}
		}
	}()
	do()
	close(done)
	return <-most
}

// TestLittleRoom: what is kept of the states does not grow with their values and servers, which most of them share.
func TestLittleRoom(t *testing.T) {
	for _, p := range []explore.Plan{
		plan(one, 99, []api.Step{put(1, "k", string(make([]byte, 65536)))}, []api.Step{get(2, "k"), get(2, "k")}),
		{Config: api.Config{N: 255, K: 1}, Depth: 99, Crashes: 9},
		plan(api.Config{N: 255, K: 1}, 1500, slices.Repeat([]api.Step{tick(1)}, 1500)),
	} {
		room := roomOf(func() {
			if _, e := explore.All(p); e != api.OK && e != api.ErrHeavy {
				t.Errorf("All is %d", int(e))
			}
		})
		if room > 100<<20 {
			t.Errorf("All with %d servers takes %d bytes", p.Config.N, room)
		}
	}
}

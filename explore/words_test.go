package explore_test

import (
	"bytes"
	"fmt"
	"math/rand/v2"
	"slices"
	"strings"
	"testing"

	"sherd/api"
	"sherd/cluster"
	"sherd/explore"
	"sherd/linear"
)

func sameStep(a, b api.Step) bool {
	return a.Kind == b.Kind && a.A == b.A && a.B == b.B && a.Key == b.Key && bytes.Equal(a.Value, b.Value) && slices.Equal(a.L, b.L)
}

// place is a point, told by the chapter's words: all of it is made anew of its steps.
type place struct {
	p    explore.Plan
	done []api.Step
	c    *cluster.Cluster
}

func placeOf(t *testing.T, p explore.Plan, done []api.Step) place {
	t.Helper()
	c, e := cluster.New(p.Config, len(p.Clients))
	if e != api.OK {
		t.Fatalf("cluster.New(%v, %d): %d", p.Config, len(p.Clients), int(e))
	}
	for _, s := range done {
		if _, e := c.Do(s); e != api.OK {
			t.Fatalf("E1: behind %s %+v was to be done, and is %d", text(done), s, int(e))
		}
	}
	return place{p, done, c}
}

// count is how many steps of these kinds were done.
func (l place) count(client int, kinds ...int) int {
	n := 0
	for _, s := range l.done {
		if slices.Contains(kinds, s.Kind) && (client == 0 || s.A == client) {
			n++
		}
	}
	return n
}

func (l place) own(client int) int {
	return l.count(client, api.SPut, api.SGet, api.SCancel, api.STick, api.SStop)
}

// may is what may be done there.
func (l place) may() []api.Step {
	var may []api.Step
	if len(l.done) >= l.p.Depth {
		return nil
	}
	for i, own := range l.p.Clients {
		if n := l.own(i + 1); n < len(own) {
			if _, e := l.c.Copy().Do(own[n]); e == api.OK {
				may = append(may, own[n])
			}
		}
	}
	flight := l.c.Flight()
	for _, kind := range []int{api.SDeliver, api.SDrop} {
		for i, d := range flight {
			isFirst := true
			for _, e := range flight[:i] {
				if d.From == e.From && d.To == e.To && d.Lost == e.Lost && bytes.Equal(d.Data, e.Data) {
					isFirst = false
				}
			}
			if isFirst && (kind == api.SDeliver || l.count(0, api.SDrop) < l.p.Drops) {
				may = append(may, api.Step{Kind: kind, A: i})
			}
		}
	}
	for _, up := range []bool{true, false} {
		for i := range l.p.Config.N {
			if up == l.c.Up(i) && (!up || l.count(0, api.SCrash) < l.p.Crashes) {
				may = append(may, api.Step{Kind: map[bool]int{true: api.SCrash, false: api.SStart}[up], A: i})
			}
		}
	}
	return may
}

// state is a text, the same just for points in the same state.
func (l place) state() string {
	var b strings.Builder
	b.WriteString(l.c.State())
	for _, e := range l.c.History() {
		fmt.Fprintf(&b, "event %d %d %d %v %q %q %d %v\n", e.Kind, e.Client, e.Op, e.Put, e.Key, e.Value, int(e.Status), e.Tag)
	}
	for i := range l.p.Clients {
		fmt.Fprintln(&b, "own", l.own(i+1))
	}
	fmt.Fprintln(&b, "drops", l.count(0, api.SDrop), "crashes", l.count(0, api.SCrash))
	return b.String()
}

// ends are the events with which operations ended in the states of a plan, for a test to see that it says something.
type ends map[string]int

func (n ends) note(l place) {
	for _, e := range l.c.History() {
		if e.Kind != api.Invoke {
			n[fmt.Sprintf("%d %v %d", e.Kind, e.Put, int(e.Status))]++
		}
	}
}

// reportOf goes through the states of a plan as the chapter says them; false: there are more than most.
func reportOf(t *testing.T, p explore.Plan, most int, n ends) (explore.Report, bool) {
	t.Helper()
	var r explore.Report
	first := placeOf(t, p, nil)
	met := map[string]bool{first.state(): true}
	for level := []place{first}; len(level) > 0; {
		var next []place
		for _, at := range level {
			r.States++
			r.Deep = len(at.done)
			may := at.may()
			if len(may) == 0 {
				r.Ends++
			}
			n.note(at)
			if _, ok, e := linear.All(at.c.History()); !ok && e != api.ErrHeavy {
				t.Fatalf("E3: the history behind %s can't be explained", text(at.done))
			}
			for _, s := range may {
				to := place{p, append(slices.Clone(at.done), s), at.c.Copy()}
				to.c.Do(s)
				if is := to.state(); !met[is] {
					met[is] = true
					next = append(next, to)
				}
				if len(met) > most {
					return explore.Report{}, false
				}
			}
		}
		level = next
	}
	return r, true
}

// compare holds All against that.
func compare(t *testing.T, p explore.Plan, n ends) (explore.Report, api.Errno) {
	t.Helper()
	want, fits := reportOf(t, p, 4096, n)
	got, e := explore.All(p)
	if fits != (e == api.OK) || !fits && e != api.ErrHeavy || got.States != want.States || got.Ends != want.Ends || got.Deep != want.Deep || len(got.Bad) != 0 {
		t.Fatalf("E1: All of %+v is %+v, %d, want %+v", p, got, int(e), want)
	}
	return got, e
}

func drawOwn(r *rand.Rand, client int) api.Step {
	keys := []string{"k", "k", "k", "j\x00", "", strings.Repeat("k", 64), strings.Repeat("k", 65)}
	s := api.Step{A: client, Kind: []int{api.SPut, api.SPut, api.SPut, api.SGet, api.SGet, api.SGet, api.SCancel, api.SCancel, api.STick, api.SStop}[r.IntN(10)]}
	if s.Kind == api.SPut || s.Kind == api.SGet {
		s.Key = keys[r.IntN(4)]
		if r.IntN(12) == 0 {
			s.Key = keys[r.IntN(len(keys))]
		}
	}
	if s.Kind == api.SPut {
		s.Value = []byte("values")[:r.IntN(7)]
	}
	if r.IntN(12) == 0 {
		s.B, s.L, s.Value = r.IntN(3), []int{r.IntN(3)}[:r.IntN(2)], append(s.Value, "odd"[:r.IntN(4)]...)
	}
	return s
}

func drawPlan(r *rand.Rand, depth int) explore.Plan {
	n := []int{1, 1, 1, 2, 2, 3}[r.IntN(6)]
	p := explore.Plan{Config: api.Config{N: n, K: 1 + r.IntN(n), Delta: r.IntN(3)}, Depth: r.IntN(depth), Drops: max(0, r.IntN(4)-1), Crashes: max(0, r.IntN(4)-1)}
	for i := range r.IntN(4) {
		var own []api.Step
		for range r.IntN(4) {
			own = append(own, drawOwn(r, i+1))
		}
		p.Clients = append(p.Clients, own)
	}
	return p
}

// TestAllAsTold: drawn plans, beside the chapter's words.
func TestAllAsTold(t *testing.T) {
	r := rand.New(rand.NewPCG(26, 1))
	n, errors := ends{}, map[api.Errno]int{}
	deep, wide := 0, 0
	for range 150 {
		got, e := compare(t, drawPlan(r, 24), n)
		errors[e]++
		deep, wide = max(deep, got.Deep), max(wide, got.States)
	}
	if errors[api.OK] < 60 || errors[api.ErrHeavy] < 5 || deep < 12 || wide < 1500 {
		t.Errorf("the test says little: %v, %d deep, %d states", errors, deep, wide)
	}
	for _, what := range []string{"2 true 0", "2 false 0", "2 false 76", "3 true 0", "3 false 0"} {
		if n[what] < 20 {
			t.Errorf("the test says little: %v", n)
		}
	}
}

// TestNextAsTold: Next along drawn points, and behind what is no point.
func TestNextAsTold(t *testing.T) {
	r := rand.New(rand.NewPCG(26, 2))
	kinds, refused := map[int]int{}, 0
	for range 800 {
		p := drawPlan(r, 60)
		at := placeOf(t, p, nil)
		for {
			may := at.may()
			nextIs(t, p, at.done, may...)
			refused += nextBehindOthers(t, r, at, may)
			if len(may) == 0 {
				break
			}
			s := may[r.IntN(len(may))]
			kinds[s.Kind]++
			at.c.Do(s)
			at.done = append(at.done, s)
		}
	}
	for _, kind := range []int{api.SPut, api.SGet, api.SCancel, api.STick, api.SStop, api.SDeliver, api.SDrop, api.SCrash, api.SStart} {
		if kinds[kind] < 20 {
			t.Errorf("the test says little: %v", kinds)
		}
	}
	if refused < 1000 {
		t.Errorf("the test says little: %d were refused", refused)
	}
}

// nextBehindOthers asks behind one step more that may be done there or not: how many may not.
func nextBehindOthers(t *testing.T, r *rand.Rand, at place, may []api.Step) int {
	t.Helper()
	refused := 0
	others := []api.Step{{Kind: r.IntN(18), A: r.IntN(6) - 1}, {Kind: api.SDeliver, A: r.IntN(9) - 1}, {Kind: api.SDrop, A: r.IntN(9) - 1}, {Kind: api.SCrash, A: r.IntN(3)}, {Kind: api.SStart, A: r.IntN(3)}, drawOwn(r, 1+r.IntN(3))}
	for _, own := range at.p.Clients {
		if len(own) > 0 {
			others = append(others, own[r.IntN(len(own))])
		}
	}
	for _, s := range others {
		if slices.ContainsFunc(may, func(m api.Step) bool { return sameStep(m, s) }) {
			continue
		}
		refused++
		nextRefused(t, at.p, api.ErrOrder, append(slices.Clone(at.done), s)...)
		if len(may) > 0 { // nor is it a point with more behind it
			nextRefused(t, at.p, api.ErrOrder, append(slices.Clone(at.done), s, may[0])...)
		}
	}
	return refused
}

// TestEachPoint: all points that Next leads to, step by step, and none left out for another in its state: their states are those of All.
func TestEachPoint(t *testing.T) {
	r := rand.New(rand.NewPCG(26, 3))
	tested, most := 0, 0
	for tested < 60 {
		p := drawPlan(r, 9)
		points, fits := pointsOf(t, p, 3000)
		if !fits {
			continue
		}
		tested++
		most = max(most, len(points))
		depth, isEnd := map[string]int{}, map[string]bool{}
		deep := 0
		for _, at := range points { // those with fewer steps first
			is := at.state()
			if _, met := depth[is]; !met {
				depth[is] = len(at.done)
				deep = max(deep, len(at.done))
			}
			if len(at.done) == depth[is] {
				isEnd[is] = len(at.may()) == 0
			}
		}
		ends := 0
		for _, is := range isEnd {
			if is {
				ends++
			}
		}
		got, e := explore.All(p)
		if e != api.OK || got.States != len(depth) || got.Ends != ends || got.Deep != deep || len(got.Bad) != 0 {
			t.Fatalf("E2: All of %+v is %+v, %d, want %d states, %d ends, %d deep", p, got, int(e), len(depth), ends, deep)
		}
	}
	if most < 1000 {
		t.Errorf("the test says little: %d points at most", most)
	}
}

// pointsOf is all points of a plan that Next leads to, those with fewer steps first; false: they are more than most.
func pointsOf(t *testing.T, p explore.Plan, most int) ([]place, bool) {
	t.Helper()
	all := []place{placeOf(t, p, nil)}
	for i := 0; i < len(all); i++ {
		may, e := explore.Next(p, all[i].done)
		if e != api.OK {
			t.Fatalf("E2: Next behind %s is %d", text(all[i].done), int(e))
		}
		for _, s := range may {
			all = append(all, placeOf(t, p, append(slices.Clone(all[i].done), s)))
		}
		if len(all) > most {
			return nil, false
		}
	}
	return all, true
}

// TestWhole: plans that are gone through to their ends, in which much goes wrong: no history is bad.
func TestWhole(t *testing.T) {
	n := ends{}
	for _, p := range []explore.Plan{
		plan(two, 99, []api.Step{put(1, "k", "x")}, []api.Step{get(2, "k")}),
		plan(one, 99, []api.Step{put(1, "k", "x")}, []api.Step{put(2, "k", "y"), get(2, "k")}),
		plan(one, 11, []api.Step{put(1, "k", "x")}, []api.Step{put(2, "k", "y")}, []api.Step{get(3, "k")}),
		plan(one, 99, []api.Step{put(1, "k", "x"), put(1, "k", "y")}, []api.Step{get(2, "k"), get(2, "k")}),
		plan(api.Config{N: 2, K: 2}, 99, []api.Step{put(1, "k", "x"), get(1, "k")}),
		{Config: two, Clients: [][]api.Step{{put(1, "k", "x"), get(1, "k")}}, Depth: 99, Crashes: 1},
		{Config: one, Clients: [][]api.Step{{put(1, "k", "x"), cancel(1), get(1, "k")}, {get(2, "k")}}, Depth: 99, Drops: 1},
		{Config: one, Clients: [][]api.Step{{put(1, "k", "x"), tick(1)}, {get(2, "k")}}, Depth: 99, Drops: 1},
		{Config: one, Clients: [][]api.Step{{put(1, "k", "x"), tick(1), get(1, "k")}}, Depth: 99, Drops: 1, Crashes: 1},
		plan(api.Config{N: 1, K: 1, Delta: 1}, 99, []api.Step{put(1, "k", "x"), put(1, "k", "x")}, []api.Step{get(2, "k")}), // histories that differ by a tag alone
		{Config: one, Clients: [][]api.Step{{put(1, "k", strings.Repeat("long", 1000)), tick(1)}}, Depth: 99, Drops: 1},     // logs that differ far behind
		plan(one, 99, []api.Step{put(1, "k", "x"), cancel(1), put(1, "k", "y"), get(1, "k")}),
		{Config: one, Clients: [][]api.Step{{put(1, "k", "x"), get(1, "k")}}, Depth: 99, Crashes: 2},
		{Config: one, Clients: [][]api.Step{{put(1, "k", "x"), stop(1)}, {put(2, "k", "y"), get(2, "k")}}, Depth: 99},
	} {
		if _, e := compare(t, p, n); e != api.OK {
			t.Errorf("the test says little: All of %+v is %d", p, int(e))
		}
	}
	for _, what := range []string{"2 true 0", "2 false 0", "2 false 76", "3 true 0"} {
		if n[what] < 100 {
			t.Errorf("the test says little: %v", n)
		}
	}
}

// TestWalks: drawn points of plans that are too great to be gone through, each of its own cluster from the beginning on: no history is bad.
func TestWalks(t *testing.T) {
	r := rand.New(rand.NewPCG(26, 5))
	n := ends{}
	for range 200 {
		servers := 1 + r.IntN(4)
		p := explore.Plan{Config: api.Config{N: servers, K: 1 + r.IntN(servers), Delta: r.IntN(2)}, Depth: 140, Drops: r.IntN(3), Crashes: r.IntN(4)}
		for id := 1; id <= 1+r.IntN(3); id++ {
			own := []api.Step{get(id, "k"), put(id, "k", fmt.Sprint(id)), get(id, "k"), put(id, "k", fmt.Sprint(-id)), tick(id), get(id, "k"), tick(id)}
			p.Clients = append(p.Clients, own[r.IntN(2):])
		}
		at := placeOf(t, p, nil)
		for {
			may, e := explore.Next(p, at.done)
			if e != api.OK {
				t.Fatalf("E2: Next behind %s is %d", text(at.done), int(e))
			}
			if len(may) == 0 {
				break
			}
			s := may[r.IntN(len(may))]
			if last := may[len(may)-1]; last.Kind == api.SStart && r.IntN(3) > 0 {
				s = last // else most are down for most of the time
			}
			at.c.Do(s)
			at.done = append(at.done, s)
		}
		n.note(at)
		if _, ok, e := linear.All(at.c.History()); !ok || e != api.OK {
			t.Fatalf("E3: the history behind %s can't be explained", text(at.done))
		}
	}
	for _, what := range []string{"2 true 0", "2 false 0", "2 false 76"} {
		if n[what] < 50 {
			t.Errorf("the test says little: %v", n)
		}
	}
}

package explore_test

import (
	"fmt"
	"math"
	"slices"
	"strings"
	"testing"

	"sherd/api"
	"sherd/explore"
	"sherd/script"
)

var (
	one   = api.Config{N: 1, K: 1}
	two   = api.Config{N: 2, K: 1}
	three = api.Config{N: 3, K: 1}
)

func put(client int, key, value string) api.Step {
	return api.Step{Kind: api.SPut, A: client, Key: key, Value: []byte(value)}
}

func get(client int, key string) api.Step { return api.Step{Kind: api.SGet, A: client, Key: key} }

func cancel(client int) api.Step { return api.Step{Kind: api.SCancel, A: client} }

func tick(client int) api.Step { return api.Step{Kind: api.STick, A: client} }

func stop(client int) api.Step { return api.Step{Kind: api.SStop, A: client} }

func deliver(at int) api.Step { return api.Step{Kind: api.SDeliver, A: at} }

func drop(at int) api.Step { return api.Step{Kind: api.SDrop, A: at} }

func crash(server int) api.Step { return api.Step{Kind: api.SCrash, A: server} }

func start(server int) api.Step { return api.Step{Kind: api.SStart, A: server} }

// plan is one without drops and crashes.
func plan(c api.Config, depth int, clients ...[]api.Step) explore.Plan {
	return explore.Plan{Config: c, Clients: clients, Depth: depth}
}

func allIs(t *testing.T, what string, p explore.Plan, states, ends, deep int) {
	t.Helper()
	r, e := explore.All(p)
	if r.States != states || r.Ends != ends || r.Deep != deep || len(r.Bad) != 0 || e != api.OK {
		t.Errorf("E1: %s: %+v, %d, want %d states, %d ends, %d deep", what, r, int(e), states, ends, deep)
	}
}

func allRefused(t *testing.T, what string, p explore.Plan, want api.Errno) {
	t.Helper()
	r, e := explore.All(p)
	if r.States != 0 || r.Ends != 0 || r.Deep != 0 || len(r.Bad) != 0 || e != want {
		t.Errorf("E1: %s: All is %+v, %d, want the zero Report, %d", what, r, int(e), int(want))
	}
}

func nextIs(t *testing.T, p explore.Plan, done []api.Step, want ...api.Step) {
	t.Helper()
	got, e := explore.Next(p, done)
	if e != api.OK || !slices.EqualFunc(got, want, sameStep) {
		t.Errorf("E1: Next behind %s is %s, %d, want %s", text(done), text(got), int(e), text(want))
	}
}

func nextRefused(t *testing.T, p explore.Plan, want api.Errno, done ...api.Step) {
	t.Helper()
	if got, e := explore.Next(p, done); e != want || len(got) != 0 {
		t.Errorf("E1: Next behind %s is %s, %d, want %d", text(done), text(got), int(e), int(want))
	}
}

func text(steps []api.Step) string {
	s, e := script.Text(steps)
	if e != api.OK {
		return "steps of which one has no line"
	}
	return "\"" + strings.ReplaceAll(s, "\n", "; ") + "\""
}

// TestExamples: the chapter's.
func TestExamples(t *testing.T) {
	p := plan(one, 5)
	allIs(t, "nobody there", p, 1, 1, 0)
	p.Crashes = 1
	allIs(t, "a crash", p, 3, 1, 2)

	p = plan(one, 9, []api.Step{get(1, "k")})
	nextIs(t, p, nil, get(1, "k"))
	nextIs(t, p, []api.Step{get(1, "k")}, deliver(0))
	nextIs(t, p, []api.Step{get(1, "k"), deliver(0)}, deliver(0))
	nextIs(t, p, []api.Step{get(1, "k"), deliver(0), deliver(0)})
	nextRefused(t, p, api.ErrOrder, deliver(0))
	allIs(t, "a Get", p, 4, 1, 3)
	p.Depth = 2
	allIs(t, "a Get of depth 2", p, 3, 1, 2)

	p.Depth, p.Drops = 9, 1
	nextIs(t, p, []api.Step{get(1, "k")}, deliver(0), drop(0))
	nextIs(t, p, []api.Step{get(1, "k"), deliver(0)}, deliver(0), drop(0))
	allIs(t, "a Get and a drop", p, 5, 2, 3)
	p.Clients[0] = append(p.Clients[0], tick(1))
	nextIs(t, p, []api.Step{get(1, "k"), drop(0)}, tick(1))
	nextIs(t, p, []api.Step{get(1, "k"), drop(0), tick(1)}, deliver(0))

	p = plan(one, 9, []api.Step{get(2, "k")})
	allRefused(t, "another client's step", p, api.ErrArg)
	nextRefused(t, p, api.ErrArg)
	p = plan(one, -1, []api.Step{get(1, "k")})
	allRefused(t, "depth -1", p, api.ErrArg)
	nextRefused(t, p, api.ErrArg)
	p = plan(one, 9, []api.Step{{Kind: api.SDeliver, A: 1}})
	allRefused(t, "a delivery in a plan", p, api.ErrArg)
	nextRefused(t, p, api.ErrArg)

	p = plan(three, 30, []api.Step{put(1, "k", "x")}, []api.Step{put(2, "k", "y")})
	allRefused(t, "two Puts", p, api.ErrHeavy)
	nextIs(t, p, nil, put(1, "k", "x"), put(2, "k", "y"))
}

// TestPlansThatMayNotBe: each clause by itself, and that it is asked ahead of all else.
func TestPlansThatMayNotBe(t *testing.T) {
	wrong := map[string]explore.Plan{
		"the zero plan": {},
		"256 clients":   plan(one, 3, make([][]api.Step, 256)...),
		"1000 clients":  plan(one, 3, make([][]api.Step, 1000)...),
		"depth":         plan(one, math.MinInt),
		"drops":         {Config: one, Depth: 3, Drops: -1},
		"least drops":   {Config: one, Depth: 3, Drops: math.MinInt},
		"crashes":       {Config: one, Depth: 3, Crashes: -1},
		"least crashes": {Config: one, Depth: 3, Crashes: math.MinInt},
		"heavy, too":    {Config: api.Config{N: 255, K: 1}, Depth: 9, Drops: -1, Crashes: 9},
	}
	for _, c := range []api.Config{{N: 0, K: 0}, {N: 1, K: 0}, {N: 0, K: 1}, {N: 1, K: 2}, {N: 256, K: 1}, {N: 1, K: 1, Delta: -1}, {N: 1, K: 1, Delta: math.MaxInt}, {N: -1, K: -1}} {
		wrong[fmt.Sprint("config ", c)] = plan(c, 3)
	}
	for _, a := range []int{0, 2, -1, 256, math.MaxInt, math.MinInt} {
		wrong[fmt.Sprint("number ", a)] = plan(one, 3, []api.Step{get(1, "k"), get(a, "k")})
	}
	for _, kind := range []int{0, 6, 7, 8, 9, 10, 11, 12, 13, 14, 15, 16, 17, -1, math.MaxInt, math.MinInt} {
		wrong[fmt.Sprint("kind ", kind)] = plan(one, 3, nil, []api.Step{tick(2), {Kind: kind, A: 2, Key: "k"}})
	}
	wrong["the last client's last step"] = plan(one, 3, append(make([][]api.Step, 254), []api.Step{tick(255), tick(255), tick(1)})...)
	for what, p := range wrong {
		allRefused(t, what, p, api.ErrArg)
		nextRefused(t, p, api.ErrArg)
		nextRefused(t, p, api.ErrArg, deliver(0)) // which is no point of any plan
		nextRefused(t, p, api.ErrArg, make([]api.Step, 9)...)
	}
}

// TestPlansThatJustMayBe: the edges of what may be.
func TestPlansThatJustMayBe(t *testing.T) {
	most := explore.Plan{Config: one, Depth: math.MaxInt, Drops: math.MaxInt, Crashes: 0}
	allIs(t, "the greatest numbers", most, 1, 1, 0)
	most.Crashes = math.MaxInt
	allRefused(t, "crashes without end", most, api.ErrHeavy)
	nextIs(t, most, nil, crash(0))
	allIs(t, "depth 0", explore.Plan{Config: one, Clients: [][]api.Step{{tick(1)}}, Drops: 1, Crashes: 1}, 1, 1, 0)
	nextIs(t, explore.Plan{Config: one, Clients: [][]api.Step{{tick(1)}}, Drops: 1, Crashes: 1}, nil)
	allIs(t, "255 clients that do nothing", plan(one, 9, make([][]api.Step, 255)...), 1, 1, 0)
	allIs(t, "the greatest Delta", plan(api.Config{N: 1, K: 1, Delta: api.MaxDelta}, 9, []api.Step{get(1, "k")}), 4, 1, 3)
	allIs(t, "all servers", plan(api.Config{N: 255, K: 255}, 1, []api.Step{get(1, "k")}), 2, 1, 1)

	clients := make([][]api.Step, 255)
	for i := range clients {
		clients[i] = []api.Step{tick(i + 1)}
	}
	wide := explore.Plan{Config: api.Config{N: 255, K: 1}, Clients: clients, Depth: 1, Crashes: 1}
	allIs(t, "all clients and all servers", wide, 511, 510, 1)
	var want []api.Step
	for i := range 255 {
		want = append(want, tick(i+1))
	}
	for i := range 255 {
		want = append(want, crash(i))
	}
	nextIs(t, wide, nil, want...)
	for _, a := range []int{0, 254} {
		nextIs(t, wide, []api.Step{crash(a)})
		nextIs(t, wide, []api.Step{tick(a + 1)})
	}
}

// TestOrderOfWhatMayBeDone: clients, deliveries, drops, crashes, starts.
func TestOrderOfWhatMayBeDone(t *testing.T) {
	p := explore.Plan{Config: three, Clients: [][]api.Step{{get(1, "k"), cancel(1)}, {tick(2)}, {cancel(3)}, {put(4, "k", "x")}}, Depth: 9, Drops: 2, Crashes: 2}
	nextIs(t, p, nil, get(1, "k"), tick(2), put(4, "k", "x"), crash(0), crash(1), crash(2))
	done := []api.Step{get(1, "k")}
	nextIs(t, p, done, cancel(1), tick(2), put(4, "k", "x"), deliver(0), deliver(1), deliver(2), drop(0), drop(1), drop(2), crash(0), crash(1), crash(2))
	done = append(done, crash(1))
	nextIs(t, p, done, cancel(1), tick(2), put(4, "k", "x"), deliver(0), deliver(1), deliver(2), drop(0), drop(1), drop(2), crash(0), crash(2), start(1))
	done = append(done, crash(0))
	nextIs(t, p, done, cancel(1), tick(2), put(4, "k", "x"), deliver(0), deliver(1), deliver(2), drop(0), drop(1), drop(2), start(0), start(1))
	done = append(done, drop(1), cancel(1), tick(2), drop(1), put(4, "k", "x"))
	nextIs(t, p, done, deliver(0), deliver(1), deliver(2), deliver(3), start(0), start(1))
	done = append(done, start(1))
	nextIs(t, p, done)
	p.Depth++
	nextIs(t, p, done, deliver(0), deliver(1), deliver(2), deliver(3), start(0))
}

// TestSameDatagrams: of those that are the same the first alone is delivered or dropped.
func TestSameDatagrams(t *testing.T) {
	p := explore.Plan{Config: two, Clients: [][]api.Step{{get(1, "k"), tick(1), tick(1)}, {get(2, "k")}}, Depth: 99, Drops: 3}
	done := []api.Step{get(1, "k"), tick(1), tick(1)}
	nextIs(t, p, done, get(2, "k"), deliver(0), deliver(1), drop(0), drop(1))
	nextIs(t, p, append(done, drop(0)), get(2, "k"), deliver(0), deliver(1), drop(0), drop(1))                                     // 1 0 1 0 1
	nextIs(t, p, append(done, drop(0), drop(1)), get(2, "k"), deliver(0), deliver(2), drop(0), drop(2))                            // 1 1 0 1
	nextIs(t, p, append(done, deliver(0)), get(2, "k"), deliver(0), deliver(1), deliver(5), drop(0), drop(1), drop(5))             // and Told of 0
	nextIs(t, p, append(done, deliver(0), deliver(1)), get(2, "k"), deliver(0), deliver(2), deliver(4), drop(0), drop(2), drop(4)) // 1 1 0 1 and Told of 0 twice
	nextIs(t, p, append(done, get(2, "k")), deliver(0), deliver(1), deliver(6), deliver(7), drop(0), drop(1), drop(6), drop(7))
	nextRefused(t, p, api.ErrOrder, append(done, deliver(2))...)
	nextRefused(t, p, api.ErrOrder, append(done, drop(2))...)
	nextRefused(t, p, api.ErrOrder, append(done, deliver(6))...) // which the cluster would take: modulo 6
	nextRefused(t, p, api.ErrOrder, append(done, deliver(-1))...)
}

// TestOwnSteps: only the next one, and only if it is taken; it holds up those behind it.
func TestOwnSteps(t *testing.T) {
	p := plan(one, 99, []api.Step{cancel(1), get(1, "k")}, []api.Step{get(2, ""), get(2, "k")}, []api.Step{put(3, "k", strings.Repeat("v", 65537)), tick(3)}, []api.Step{get(4, strings.Repeat("k", 65))})
	nextIs(t, p, nil)
	allIs(t, "clients that are stuck", p, 1, 1, 0)
	nextRefused(t, p, api.ErrOrder, cancel(1))
	nextRefused(t, p, api.ErrOrder, get(1, "k"))
	nextRefused(t, p, api.ErrOrder, tick(3))
	p = plan(one, 99, []api.Step{get(1, "k"), get(1, "j"), stop(1), tick(1)})
	nextIs(t, p, []api.Step{get(1, "k")}, deliver(0))
	nextRefused(t, p, api.ErrOrder, get(1, "k"), get(1, "j"))
	nextIs(t, p, []api.Step{get(1, "k"), deliver(0), deliver(0)}, get(1, "j"))
	nextIs(t, p, []api.Step{get(1, "k"), deliver(0), deliver(0), get(1, "j")}, stop(1), deliver(0))
	nextIs(t, p, []api.Step{get(1, "k"), deliver(0), deliver(0), get(1, "j"), stop(1)}, deliver(0))
	nextIs(t, p, []api.Step{get(1, "k"), deliver(0), deliver(0), get(1, "j"), stop(1), deliver(0), deliver(0)})
	nextRefused(t, p, api.ErrOrder, get(1, "k"), deliver(0), deliver(0), get(1, "j"), stop(1), tick(1))
	allIs(t, "a client that stops", p, 11, 2, 7)
	p = plan(one, 99, []api.Step{put(1, "k", "x"), cancel(1), cancel(1)})
	nextIs(t, p, []api.Step{put(1, "k", "x"), cancel(1)}, deliver(0))
	nextRefused(t, p, api.ErrOrder, put(1, "k", "x"), cancel(1), cancel(1))
}

// TestAllFieldsCount: a step is the plan's in all its fields, also in those that its kind doesn't use.
func TestAllFieldsCount(t *testing.T) {
	odd := []api.Step{
		{Kind: api.SPut, A: 1, B: 7, Key: "k", Value: []byte("xy"), L: []int{1, 2}},
		{Kind: api.SGet, A: 2, B: -3, Key: "k", Value: []byte("z"), L: []int{4}},
		{Kind: api.STick, A: 3, B: 1, Key: "key", Value: []byte{0}, L: []int{0}},
		{Kind: api.SStop, A: 4, Key: "s"},
	}
	p := plan(three, 9, odd[:1], odd[1:2], odd[2:3], odd[3:])
	nextIs(t, p, nil, odd...)
	for _, s := range odd {
		if _, e := explore.Next(p, []api.Step{s}); e != api.OK {
			t.Errorf("E1: Next behind %+v is %d", s, int(e))
		}
		for i, change := range []func(*api.Step){
			func(s *api.Step) { s.Kind = s.Kind%5 + 1 },
			func(s *api.Step) { s.A = s.A%4 + 1 },
			func(s *api.Step) { s.B++ },
			func(s *api.Step) { s.Key += "k" },
			func(s *api.Step) { s.Value = append([]byte{}, string(s.Value)+"v"...) },
			func(s *api.Step) { s.L = append(slices.Clone(s.L), 0) },
			func(s *api.Step) { s.L = append(slices.Clone(s.L), 0)[1:]; s.Key = s.Key[1:] },
			func(s *api.Step) { s.Value, s.Key = append([]byte{}, string(s.Value)+"v"...)[1:], s.Key[1:] },
		} {
			other := s
			change(&other)
			if got, e := explore.Next(p, []api.Step{other}); e != api.ErrOrder || len(got) != 0 {
				t.Errorf("E1: change %d: Next behind %+v, %+v in the plan, is %d", i, other, s, int(e))
			}
		}
	}
	p = explore.Plan{Config: one, Clients: [][]api.Step{{get(1, "k")}}, Depth: 9, Drops: 1, Crashes: 1}
	for _, s := range []api.Step{deliver(0), drop(0), crash(0)} {
		done := []api.Step{get(1, "k"), s}
		if _, e := explore.Next(p, done); e != api.OK {
			t.Errorf("E1: Next behind %s is %d", text(done), int(e))
		}
		for _, change := range []func(*api.Step){
			func(s *api.Step) { s.B = 1 },
			func(s *api.Step) { s.A = 1 },
			func(s *api.Step) { s.A = -1 },
			func(s *api.Step) { s.Key = "k" },
			func(s *api.Step) { s.Value = []byte{0} },
			func(s *api.Step) { s.L = []int{0} },
		} {
			other := s
			change(&other)
			nextRefused(t, p, api.ErrOrder, get(1, "k"), other)
		}
	}
	nextRefused(t, p, api.ErrOrder, crash(0), api.Step{Kind: api.SStart, L: []int{1}})
	for kind := range 20 {
		if kind != api.SGet && kind != api.SCrash {
			nextRefused(t, p, api.ErrOrder, api.Step{Kind: kind, A: 1, Key: "k"})
		}
	}
}

// TestEmptyLists: none and one without elements are the same.
func TestEmptyLists(t *testing.T) {
	p := plan(one, 9, []api.Step{{Kind: api.SPut, A: 1, Key: "k", Value: []byte{}, L: nil}, {Kind: api.STick, A: 1, L: []int{}}}, []api.Step{})
	nextIs(t, p, []api.Step{{Kind: api.SPut, A: 1, Key: "k", L: []int{}}}, tick(1), deliver(0))
	nextIs(t, p, []api.Step{{Kind: api.SPut, A: 1, Key: "k"}, {Kind: api.STick, A: 1, Value: []byte{}}, {Kind: api.SDeliver, L: []int{}, Value: []byte{}}}, deliver(0), deliver(1))
	nextIs(t, p, []api.Step{}, put(1, "k", ""))
}

// TestDropsAndCrashesAreCounted: just so many may be done.
func TestDropsAndCrashesAreCounted(t *testing.T) {
	p := explore.Plan{Config: one, Clients: [][]api.Step{{get(1, "k"), tick(1), tick(1)}}, Depth: 99, Drops: 2, Crashes: 2}
	nextIs(t, p, []api.Step{get(1, "k"), drop(0), tick(1)}, tick(1), deliver(0), drop(0), crash(0))
	nextIs(t, p, []api.Step{get(1, "k"), drop(0), tick(1), drop(0), tick(1)}, deliver(0), crash(0))
	nextRefused(t, p, api.ErrOrder, get(1, "k"), drop(0), tick(1), drop(0), tick(1), drop(0))
	nextIs(t, p, []api.Step{crash(0)}, get(1, "k"), start(0))
	nextIs(t, p, []api.Step{crash(0), start(0)}, get(1, "k"), crash(0))
	nextIs(t, p, []api.Step{crash(0), start(0), crash(0)}, get(1, "k"), start(0))
	nextIs(t, p, []api.Step{crash(0), start(0), crash(0), start(0)}, get(1, "k"))
	nextRefused(t, p, api.ErrOrder, crash(0), crash(0))
	nextRefused(t, p, api.ErrOrder, start(0))
	nextRefused(t, p, api.ErrOrder, crash(0), start(0), crash(0), start(0), crash(0))
}

// TestDepth: at a point of so many steps nothing may be done.
func TestDepth(t *testing.T) {
	ticks := slices.Repeat([]api.Step{tick(1)}, 20)
	for depth := range 12 {
		p := plan(one, depth, ticks)
		for n := range 15 {
			switch {
			case n < depth:
				nextIs(t, p, ticks[:n], tick(1))
			case n == depth:
				nextIs(t, p, ticks[:n])
			default:
				nextRefused(t, p, api.ErrOrder, ticks[:n]...)
			}
		}
		allIs(t, "ticks", p, depth+1, 1, depth)
	}
}

// TestMostStates: 4096 are gone through, one more is too heavy; whether the depth or the plan is at its end.
func TestMostStates(t *testing.T) {
	ticks := slices.Repeat([]api.Step{tick(1)}, 5000)
	allIs(t, "4095 ticks", plan(one, math.MaxInt, ticks[:4095]), 4096, 1, 4095)
	allRefused(t, "4096 ticks", plan(one, math.MaxInt, ticks[:4096]), api.ErrHeavy)
	allIs(t, "depth 4095", plan(one, 4095, ticks), 4096, 1, 4095)
	allRefused(t, "depth 4096", plan(one, 4096, ticks), api.ErrHeavy)
	allIs(t, "2047 crashes", explore.Plan{Config: one, Depth: 9999, Crashes: 2047}, 4095, 1, 4094)
	allRefused(t, "2048 crashes", explore.Plan{Config: one, Depth: 9999, Crashes: 2048}, api.ErrHeavy)
	allIs(t, "crashes of depth 4095", explore.Plan{Config: one, Depth: 4095, Crashes: 9999}, 4096, 1, 4095)
	allRefused(t, "crashes of depth 4096", explore.Plan{Config: one, Depth: 4096, Crashes: 9999}, api.ErrHeavy)
	// n servers, two crashes, two steps: the beginning, n with one down, n (n - 1) / 2 with two down, and all up again
	allIs(t, "89 servers", explore.Plan{Config: api.Config{N: 89, K: 3}, Depth: 2, Crashes: 2}, 4007, 3917, 2)
	allRefused(t, "90 servers", explore.Plan{Config: api.Config{N: 90, K: 3}, Depth: 2, Crashes: 2}, api.ErrHeavy) // 4097
	// twelve clients with a step each: all sets of them
	var clients [][]api.Step
	for i := range 12 {
		clients = append(clients, []api.Step{stop(i + 1)})
	}
	allIs(t, "sets of 12", plan(one, 99, clients...), 4096, 1, 12)
	allIs(t, "sets of 12 but one", plan(one, 11, clients...), 4095, 12, 11)
	allRefused(t, "sets of 13", plan(one, 99, append(clients, []api.Step{stop(13)})...), api.ErrHeavy)
	p := plan(one, 99, clients...)
	p.Drops = 3
	allIs(t, "drops of nothing", p, 4096, 1, 12)
	p.Clients[0] = append(p.Clients[0], tick(1)) // never taken, as the client has stopped
	allIs(t, "a step that is never taken", p, 4096, 1, 12)
}

// TestLongDone: what is asked of a long list does not grow out of hand.
func TestLongDone(t *testing.T) {
	gets := slices.Repeat([]api.Step{get(1, "k")}, 20000)
	done := slices.Repeat([]api.Step{get(1, "k"), deliver(0), deliver(0)}, 19999)
	p := plan(one, math.MaxInt, gets)
	nextIs(t, p, done, get(1, "k"))
	nextRefused(t, p, api.ErrOrder, append(done, deliver(0))...)
}

// TestHeavyHistories: what is too heavy to be judged is not bad.
func TestHeavyHistories(t *testing.T) {
	gets := slices.Repeat([]api.Step{get(1, "k")}, 40)
	allIs(t, "40 Gets", plan(one, 999, gets), 121, 1, 120)
	puts := slices.Repeat([]api.Step{put(1, "k", "x")}, 30)
	allIs(t, "30 Puts", plan(one, 999, puts), 211, 1, 210)
}

// TestCounted: plans whose states are easily told.
func TestCounted(t *testing.T) {
	allIs(t, "a Put", plan(one, 99, []api.Step{put(1, "k", "x")}), 8, 1, 7)
	allIs(t, "a Put and a Get behind it", plan(one, 99, []api.Step{put(1, "k", "x"), get(1, "k")}), 13, 1, 12)
	// each of two servers is asked, has answered, or its answer has come: nine ways, but if both answers are in flight, then in either order
	allIs(t, "a Get of two", plan(two, 99, []api.Step{get(1, "k")}), 1+9+1, 1, 5)
	// the two clients know nothing of each other, but their datagrams stand in flight in the order in which they were sent
	p := plan(one, 1, []api.Step{get(1, "k")}, []api.Step{get(2, "j")})
	allIs(t, "two Gets of depth 1", p, 3, 2, 1)
	p.Depth = 2
	allIs(t, "two Gets of depth 2", p, 7, 4, 2)
	// the same client's SCancel has the state differ by its history, though what goes on is alike
	p = plan(one, 2, []api.Step{get(1, "k"), cancel(1)}, []api.Step{tick(2)})
	allIs(t, "a cancel", p, 6, 3, 2)
}

package explore

import (
	"math/rand/v2"
	"slices"
	"testing"

	"sherd/api"
	"sherd/cluster"
)

func step(kind, a int, key, value string) api.Step {
	return api.Step{Kind: kind, A: a, Key: key, Value: []byte(value)}
}

// historyOf is what clients saw in the steps of a point.
func historyOf(t *testing.T, p Plan, done []api.Step) []api.Event {
	t.Helper()
	c, _ := cluster.New(p.Config, len(p.Clients))
	for _, s := range done {
		if _, e := c.Do(s); e != api.OK {
			t.Fatalf("%+v is %d", s, int(e))
		}
	}
	return c.History()
}

// firstBad is the first point that Next leads to of which a judge says no.
func firstBad(t *testing.T, p Plan, judge func([]api.Event) bool) []api.Step {
	t.Helper()
	for points := [][]api.Step{nil}; len(points) > 0; points = points[1:] {
		if !judge(historyOf(t, p, points[0])) {
			return points[0]
		}
		next, e := Next(p, points[0])
		if e != api.OK {
			t.Fatalf("Next is %d", int(e))
		}
		for _, s := range next {
			points = append(points, append(slices.Clone(points[0]), s))
		}
	}
	return nil
}

// judges find fault with some histories that are none.
func judges() []func([]api.Event) bool {
	fault := func(at func(api.Event) bool) func([]api.Event) bool {
		return func(es []api.Event) bool { return !slices.ContainsFunc(es, at) }
	}
	return []func([]api.Event) bool{
		isExplained,
		fault(func(e api.Event) bool { return e.Client == 2 }),
		fault(func(e api.Event) bool { return e.Kind == api.Return }),
		fault(func(e api.Event) bool { return e.Kind == api.Cancel }),
		fault(func(e api.Event) bool { return e.Kind == api.Return && e.Client == 2 }),
		fault(func(e api.Event) bool { return e.Kind == api.Return && e.Put }),
		func(es []api.Event) bool { return len(es) < 2 },
		func(es []api.Event) bool { return len(es) < 3 },
		func(es []api.Event) bool { return len(es) < 2 || es[0].Client <= es[1].Client },
		func(es []api.Event) bool { return len(es) < 2 || es[1].Client <= es[0].Client },
	}
}

// TestBad: no plan has a bad history, so that others are taken for bad: the first point is told, and the rest is as ever.
func TestBad(t *testing.T) {
	one, two := api.Config{N: 1, K: 1}, api.Config{N: 2, K: 1}
	a, b := step(api.SPut, 1, "k", "x"), step(api.SGet, 2, "k", "")
	found := 0
	for i, p := range []Plan{
		{Config: one, Clients: [][]api.Step{{a}, {b}}, Depth: 9},
		{Config: one, Clients: [][]api.Step{{step(api.STick, 1, "", ""), a}, {b, step(api.SCancel, 2, "", "")}}, Depth: 7},
		{Config: one, Clients: [][]api.Step{{step(api.SGet, 1, "k", ""), step(api.STick, 1, "", "")}, {b}}, Depth: 7, Drops: 1, Crashes: 1},
		{Config: two, Clients: [][]api.Step{{step(api.SGet, 1, "k", "")}, {b}}, Depth: 7},
		{Config: one, Clients: [][]api.Step{nil, {b}}, Depth: 1},
		{Config: one, Clients: [][]api.Step{{a}, {b}}, Depth: 0},
	} {
		calm, e := All(p)
		if e != api.OK || len(calm.Bad) != 0 {
			t.Fatalf("plan %d: All is %+v, %d", i, calm, int(e))
		}
		for j, judge := range judges() {
			want := firstBad(t, p, judge)
			got, e := survey(p, judge)
			if e != api.OK || !slices.EqualFunc(got.Bad, want, same) {
				t.Errorf("E1: plan %d, judge %d: the bad point is %+v, want %+v", i, j, got.Bad, want)
			}
			if got.States != calm.States || got.Ends != calm.Ends || got.Deep != calm.Deep {
				t.Errorf("E1: plan %d, judge %d: %+v, want %+v", i, j, got, calm)
			}
			if len(want) > 0 {
				found++
			}
		}
	}
	if found < 25 {
		t.Errorf("the test says little: %d were bad", found)
	}
}

// TestBadIsNewMemory: as all that is told.
func TestBadIsNewMemory(t *testing.T) {
	own := api.Step{Kind: api.SPut, A: 1, Key: "k", Value: []byte("x"), L: []int{1}}
	p := Plan{Config: api.Config{N: 1, K: 1}, Clients: [][]api.Step{{own}}, Depth: 9}
	r, e := survey(p, func(es []api.Event) bool { return len(es) == 0 })
	if e != api.OK || len(r.Bad) != 1 || !same(r.Bad[0], own) {
		t.Fatalf("survey is %+v, %d", r, int(e))
	}
	r.Bad[0].Value[0], r.Bad[0].L[0] = 'y', 2
	if string(own.Value) != "x" || own.L[0] != 1 {
		t.Errorf("E1: what is bad shares memory with the plan")
	}
}

// TestHeavyAndBad: with an error there is no report.
func TestHeavyAndBad(t *testing.T) {
	p := Plan{Config: api.Config{N: 3, K: 1}, Clients: [][]api.Step{{step(api.SPut, 1, "k", "x")}, {step(api.SPut, 2, "k", "y")}}, Depth: 30}
	r, e := survey(p, func([]api.Event) bool { return false })
	if e != api.ErrHeavy || r.States != 0 || r.Ends != 0 || r.Deep != 0 || r.Bad != nil {
		t.Errorf("E1: survey is %+v, %d", r, int(e))
	}
}

func sameEvent(a, b api.Event) bool {
	return a.Kind == b.Kind && a.Client == b.Client && a.Op == b.Op && a.Put == b.Put && a.Key == b.Key && string(a.Value) == string(b.Value) && a.Status == b.Status && a.Tag == b.Tag
}

// TestEachHistoryIsJudgedOnce: each that drawn points have is among them.
func TestEachHistoryIsJudgedOnce(t *testing.T) {
	r := rand.New(rand.NewPCG(26, 4))
	put, get, cancel := step(api.SPut, 1, "k", "x"), step(api.SGet, 2, "k", ""), step(api.SCancel, 1, "", "")
	for _, clients := range [][][]api.Step{{{put}, {get}}, {{put, cancel}, {get}}, {{put, cancel, put}, {get}}} {
		p := Plan{Config: api.Config{N: 1, K: 1}, Clients: clients, Depth: 14}
		var judged [][]api.Event
		if _, e := survey(p, func(es []api.Event) bool {
			judged = append(judged, es)
			return true
		}); e != api.OK {
			t.Fatalf("survey is %d", int(e))
		}
		for i, es := range judged {
			if slices.ContainsFunc(judged[:i], func(j []api.Event) bool { return slices.EqualFunc(j, es, sameEvent) }) {
				t.Fatalf("E1: %+v was judged twice", es)
			}
		}
		for range 200 {
			var done []api.Step
			for next, _ := Next(p, done); len(next) > 0; next, _ = Next(p, done) {
				done = append(done, next[r.IntN(len(next))])
				es := historyOf(t, p, done)
				if !slices.ContainsFunc(judged, func(j []api.Event) bool { return slices.EqualFunc(j, es, sameEvent) }) {
					t.Fatalf("E1: %+v was not judged", es)
				}
			}
		}
		if len(judged) < 20 {
			t.Errorf("the test says little: %d histories", len(judged))
		}
	}
}

// TestIsExplained: what is too heavy passes, what can't be explained or is no history doesn't.
func TestIsExplained(t *testing.T) {
	invoke := func(client int, op int64, isPut bool, key, value string) api.Event {
		return api.Event{Kind: api.Invoke, Client: client, Op: op, Put: isPut, Key: key, Value: []byte(value)}
	}
	returns := func(client int, op int64, isPut bool, key, value string, count int64) api.Event {
		return api.Event{Kind: api.Return, Client: client, Op: op, Put: isPut, Key: key, Value: []byte(value), Tag: api.Tag{Count: count, Client: 1}}
	}
	var many []api.Event
	for op := range int64(25) {
		many = append(many, invoke(1, op+1, true, "k", "x"), returns(1, op+1, true, "k", "", op+1))
	}
	wrong := []api.Event{invoke(2, 1, false, "k", ""), returns(2, 1, false, "k", "y", 1)}
	for _, x := range []struct {
		what string
		es   []api.Event
		want bool
	}{
		{"none", nil, true},
		{"a Put and a Get of it", append(slices.Clone(many[:2]), invoke(2, 1, false, "k", ""), returns(2, 1, false, "k", "x", 1)), true},
		{"a Get of nothing that was put", append(slices.Clone(many[:2]), wrong...), false},
		{"25 Puts", many, true},
		{"25 Puts and a Get of nothing that was put", append(slices.Clone(many), wrong...), true},
		{"a return of nothing", many[1:2], false},
		{"the zero event", make([]api.Event, 1), false},
	} {
		if got := isExplained(x.es); got != x.want {
			t.Errorf("E1: %s: %v", x.what, got)
		}
	}
}

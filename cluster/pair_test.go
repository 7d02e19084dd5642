package cluster_test

import (
	"bytes"
	"fmt"
	"math"
	"math/rand/v2"
	"slices"
	"testing"

	"sherd/api"
	"sherd/cluster"
)

// pair is a cluster beside its paper.
type pair struct {
	t     *testing.T
	c     *cluster.Cluster
	p     *paper
	steps []api.Step
}

func newPair(t *testing.T, config api.Config, clients int) *pair {
	t.Helper()
	return &pair{t: t, c: made(t, config, clients), p: newPaper(config, clients)}
}

func made(t *testing.T, config api.Config, clients int) *cluster.Cluster {
	t.Helper()
	c, e := cluster.New(config, clients)
	if e != api.OK || c == nil {
		t.Fatalf("P22.1: New(%v, %d): %d", config, clients, int(e))
	}
	return c
}

func sameEvents(a, b []api.Event) bool {
	return slices.EqualFunc(a, b, func(x, y api.Event) bool {
		return x.Kind == y.Kind && x.Client == y.Client && x.Op == y.Op && x.Put == y.Put && x.Key == y.Key && bytes.Equal(x.Value, y.Value) && x.Status == y.Status && x.Tag == y.Tag
	})
}

// do has both do steps.
func (a *pair) do(steps ...api.Step) {
	a.t.Helper()
	for _, s := range steps {
		a.steps = append(a.steps, s)
		got, e := a.c.Do(s)
		want, f := a.p.do(s)
		if e != f || !sameEvents(got, want) {
			a.t.Fatalf("P22.2: step %d, %+v: %+v, %d, want %+v, %d", len(a.steps), s, got, int(e), want, int(f))
		}
		a.state()
	}
}

func (a *pair) state() {
	a.t.Helper()
	if got, want := a.c.State(), a.p.state(); got != want {
		a.t.Fatalf("P22.4: behind step %d, %+v, the state is\n%s, want\n%s", len(a.steps), a.steps[max(0, len(a.steps)-1):], got, want)
	}
}

// all looks at all that a cluster tells.
func (a *pair) all() {
	a.t.Helper()
	t, c, p := a.t, a.c, a.p
	a.state()
	if config, n := c.Config(); config != p.c || n != len(p.clients) {
		t.Fatalf("P22.3: Config is %v, %d", config, n)
	}
	if got := c.History(); !sameEvents(got, p.history) {
		t.Fatalf("P22.3: History is %+v, want %+v", got, p.history)
	}
	if got := c.Flight(); fmt.Sprint(got) != fmt.Sprint(p.flight) {
		t.Fatalf("P22.3: Flight is %v, want %v", got, p.flight)
	}
	for i := -2; i < p.c.N+2; i++ {
		a.server(i)
	}
	for i := -1; i < len(p.clients)+3; i++ {
		a.client(i)
	}
	for _, i := range []int{math.MinInt, math.MaxInt, 255, 256} {
		if i >= p.c.N {
			a.server(i)
		}
		if i > len(p.clients) {
			a.client(i)
		}
	}
}

func (a *pair) server(i int) {
	a.t.Helper()
	table, e := a.c.Table(i)
	slots, current, f := a.c.Slots(i)
	got := fmt.Sprint(a.c.Up(i), table, int(e), slots, current, int(f))
	want := fmt.Sprint(false, []api.Held{}, int(api.ErrNode), [2][]byte{}, 0, int(api.ErrNode))
	if i >= 0 && i < a.p.c.N {
		s := a.p.servers[i]
		bytes, at := s.d.Slots()
		if s.up {
			want = fmt.Sprint(true, s.s.All(), 0, bytes, at, 0)
		} else {
			want = fmt.Sprint(false, []api.Held{}, int(api.ErrDown), bytes, at, 0)
		}
	}
	if got != want {
		a.t.Fatalf("P22.3: server %d is %s, want %s", i, got, want)
	}
}

func (a *pair) client(i int) {
	a.t.Helper()
	op, put, key, tag, phase, e := a.c.Now(i)
	got := fmt.Sprint(a.c.Live(i), op, put, key, tag, phase, int(e))
	want := fmt.Sprint(false, 0, false, "", api.Tag{}, 0, int(api.ErrNode))
	if i >= 1 && i <= len(a.p.clients) {
		switch c := a.p.clients[i-1]; {
		case c.stopped:
			want = fmt.Sprint(false, 0, false, "", api.Tag{}, 0, int(api.ErrDown))
		case !c.busy:
			want = fmt.Sprint(true, 0, false, "", api.Tag{}, 0, int(api.ErrIdle))
		default:
			want = fmt.Sprint(true, c.begun, c.put, c.key, c.tag, c.phase, 0)
		}
	}
	if got != want {
		a.t.Fatalf("P22.3: client %d is %s, want %s", i, got, want)
	}
}

func drawConfig(r *rand.Rand) api.Config {
	n := 1 + r.IntN(5)
	return api.Config{N: n, K: 1 + r.IntN(n), Delta: []int{0, 0, 1, 2, api.MaxDelta}[r.IntN(5)]}
}

// seen is how much of each kind the scripts brought.
type seen map[string]int

func (n seen) look(p *paper) {
	for _, e := range p.history {
		n[fmt.Sprint("event ", e.Kind, e.Put, int(e.Status))]++
		if e.Kind == api.Cancel && e.Tag != (api.Tag{}) {
			n["cancel behind the choice"]++
		}
	}
}

func (n seen) atLeast(t *testing.T, least int, names ...string) {
	t.Helper()
	for _, name := range names {
		if n[name] < least {
			t.Errorf("the test says little: %q came %d times: %v", name, n[name], n)
		}
	}
}

// beside has a pair go through a long script, in which all that is told is looked at now and then.
func beside(a *pair, r *rand.Rand, m mood, most int, n seen) {
	a.t.Helper()
	s := &script{Rand: r, mood: m, p: a.p}
	for i := range r.IntN(most) {
		a.do(s.next()...)
		if i%40 == 0 {
			a.all()
		}
	}
	a.all()
	n.look(a.p)
}

// TestAsTold: long scripts, beside a paper.
func TestAsTold(t *testing.T) {
	r := rand.New(rand.NewPCG(22, 1))
	n := seen{}
	for run := range 400 {
		m := wild()
		m.wrong, m.stops = 4, run%2
		beside(newPair(t, drawConfig(r), r.IntN(5)), r, m, 1000, n)
	}
	n.atLeast(t, 100, "event 1 true 0", "event 1 false 0", "event 2 true 0", "event 2 false 0", "event 2 false 76", "event 3 true 0", "event 3 false 0", "cancel behind the choice")
	t.Log(n)
}

// TestForged: scripts in which datagrams are spoilt until they are others: nothing is promised of the whole then, but each step does what it must.
func TestForged(t *testing.T) {
	r := rand.New(rand.NewPCG(22, 2))
	n := seen{}
	for range 400 {
		m := calm()
		m.forged, m.doubles, m.cancels, m.crashes, m.dies, m.starts = 40, 8, 2, 1, 1, 9
		m.keys = []string{"k", "key", "a key so long that other datagrams can be made of its"}
		servers := 1 + r.IntN(3)
		beside(newPair(t, api.Config{N: servers, K: 1 + r.IntN(servers)}, 1+r.IntN(3)), r, m, 400, n)
	}
	n.atLeast(t, 5, "event 2 true 42", "event 2 false 23")
	t.Log(n)
}

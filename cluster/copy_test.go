package cluster_test

import (
	"fmt"
	"math/rand/v2"
	"slices"
	"sync"
	"testing"

	"sherd/api"
	"sherd/cluster"
)

// again is a pair that has done these steps.
func again(t *testing.T, config api.Config, clients int, steps []api.Step) *pair {
	t.Helper()
	a := newPair(t, config, clients)
	for _, s := range steps {
		a.c.Do(s)
		a.p.do(s)
	}
	a.steps = slices.Clone(steps)
	return a
}

// TestCopies: copies, and copies of copies, at any time of a script: each goes on by itself, beside a paper of its own.
func TestCopies(t *testing.T) {
	r := rand.New(rand.NewPCG(22, 6))
	for run := range 120 {
		config, clients := drawConfig(r), 1+r.IntN(3)
		m := wild()
		m.dies, m.stops, m.forged = 4, run%2, run%3
		all := []*pair{newPair(t, config, clients)}
		for range r.IntN(400) {
			a := all[r.IntN(len(all))]
			s := &script{Rand: r, mood: m, p: a.p}
			a.do(s.next()...)
			if len(all) < 6 && r.IntN(30) == 0 {
				b := again(t, config, clients, a.steps)
				b.c = a.c.Copy()
				b.all()
				all = append(all, b)
			}
			if r.IntN(10) == 0 {
				for _, b := range all {
					b.state()
				}
			}
		}
		for _, a := range all {
			a.all()
		}
	}
}

// told is all that a cluster tells, but the history.
func told(c *cluster.Cluster) string {
	config, clients := c.Config()
	s := fmt.Sprintln(config, clients, c.Flight())
	for i := -1; i <= config.N; i++ {
		h, e := c.Table(i)
		slots, current, f := c.Slots(i)
		s += fmt.Sprintln(c.Up(i), h, int(e), slots, current, int(f))
	}
	for i := 0; i <= clients+1; i++ {
		op, put, key, tag, phase, e := c.Now(i)
		s += fmt.Sprintln(c.Live(i), op, put, key, tag, phase, int(e))
	}
	return s + c.State()
}

// alike: two clusters with the same State go on alike, whatever the steps.
func alike(t *testing.T, r *rand.Rand, m mood, a *pair, b *cluster.Cluster) {
	t.Helper()
	first, second := a.c.History(), b.History()
	s := &script{Rand: r, mood: m, p: a.p}
	if told(a.c) != told(b) {
		t.Fatalf("P22.5: with the same State\n%s, told are\n%s and\n%s", b.State(), told(a.c), told(b))
	}
	for range 40 {
		for _, x := range s.next() {
			es, e := a.c.Do(x)
			a.p.do(x)
			fs, f := b.Do(x)
			if e != f || !sameEvents(es, fs) || told(a.c) != told(b) {
				t.Fatalf("P22.5: %+v parts two with the same State: %v, %d\n%s and %v, %d\n%s", x, es, int(e), told(a.c), fs, int(f), told(b))
			}
		}
	}
	if !sameEvents(a.c.History()[len(first):], b.History()[len(second):]) {
		t.Fatalf("P22.5: of the histories other events come")
	}
}

// TestSameState: states that are come to on two ways, by clusters that nobody copied.
func TestSameState(t *testing.T) {
	r := rand.New(rand.NewPCG(22, 7))
	m := wild()
	m.keys, m.values, m.doubles, m.spoils, m.dies, m.smalls, m.drops = m.keys[:1], m.values[:2], 1, 0, 20, 10, 20
	type way struct {
		steps   []api.Step
		history []api.Event
	}
	met, pairs, unlike := map[string]way{}, 0, 0
	for range 6000 {
		config, clients := api.Config{N: 1 + r.IntN(2), K: 1}, 1+r.IntN(2)
		a := newPair(t, config, clients)
		s := &script{Rand: r, mood: m, p: a.p}
		for range 2 + r.IntN(25) {
			for _, x := range s.next() {
				a.c.Do(x)
				a.p.do(x)
				a.steps = append(a.steps, x)
			}
		}
		state := a.c.State()
		other, there := met[state]
		if !there {
			met[state] = way{a.steps, a.c.History()}
			continue
		}
		if fmt.Sprint(other.steps) == fmt.Sprint(a.steps) {
			continue
		}
		pairs++
		if !sameEvents(other.history, a.c.History()) {
			unlike++
		}
		b := again(t, config, clients, other.steps)
		alike(t, r, m, a, b.c)
	}
	if pairs < 500 || unlike < 30 {
		t.Errorf("the test says little: %d pairs, %d of them with unlike histories", pairs, unlike)
	}
	t.Log(pairs, unlike)
}

// TestUnlikeStates: what clusters may part by later is in the state.
func TestUnlikeStates(t *testing.T) {
	base := []api.Step{put(1, "k", "x"), deliver(0), deliver(0), get(2, "k")}
	states := map[string]int{}
	for i, more := range [][]api.Step{{}, {deliver(0)}, {die(0, 1)}, {die(0, 1, 1)}, {die(0, 1, 0, 1)}, {die(0, 1, 0, 1, 0)}, {die(0, 2)}, {die(1, 1)}, {crash(0)}, {lose(0)}, {lose(1)}, {stop(1)}, {stop(2)}, {cancel(1)}, {cancel(2)}, {tick(1)}, {cut(0, 1)}, {cut(0, 0)}, {burst(0, 0, 1)}, {{Kind: api.SDouble, A: 0}}, {{Kind: api.SDrop, A: 0}}, {small(0)}, {cancel(1), put(1, "k", "x")}, {cancel(1), put(1, "k", "y")}, {cancel(1), put(1, "j", "x")}, {cancel(1), put(1, "k", "")}, {cancel(2), cancel(1), get(1, "k")}} {
		c := made(t, api.Config{N: 2, K: 1}, 2)
		do(t, c, append(slices.Clone(base), more...)...)
		if j, there := states[c.State()]; there {
			t.Errorf("P22.4: of %d and %d the state is the same: %s", i, j, c.State())
		}
		states[c.State()] = i
		d := made(t, api.Config{N: 2, K: 1}, 2)
		do(t, d, append(slices.Clone(base), more...)...)
		if c.State() != d.State() {
			t.Errorf("P3: the same steps bring another state")
		}
	}
}

// TestBesideEachOther: copies go on in goroutines of their own.
func TestBesideEachOther(t *testing.T) {
	c := made(t, api.Config{N: 4, K: 2}, 2)
	do(t, c, put(1, "k", "value"), die(3, 20, 1, 2))
	for range 9 {
		do(t, c, deliver(0))
	}
	do(t, c, get(2, "k"), deliver(4))
	play := func(c *cluster.Cluster) string {
		s := ""
		for range 30 {
			for range 12 {
				c.Do(deliver(5))
			}
			c.Do(tick(1))
			c.Do(tick(2))
			c.Do(put(1, "k", "other"))
			c.Do(get(2, "k"))
			s += c.State()
		}
		return s + fmt.Sprint(c.History())
	}
	want := play(c.Copy())
	got := make([]string, 12)
	var group sync.WaitGroup
	for i := range got {
		d := c.Copy()
		group.Go(func() { got[i] = play(d) })
	}
	group.Wait()
	for i := range got {
		if got[i] != want {
			t.Errorf("P5: beside others copy %d goes on otherwise", i)
		}
	}
}

package fair_test

import (
	"bytes"
	"fmt"
	"math"
	"math/rand/v2"
	"slices"
	"testing"

	"sherd/api"
	"sherd/cluster"
	"sherd/quorum"
)

// world is a cluster to which drawn steps of every kind are done.
type world struct {
	*rand.Rand
	t       *testing.T
	c       *cluster.Cluster
	config  api.Config
	clients int
	keys    []string
	spoilt  []bool // by the numbers in flight
	rough   bool   // what is spoilt may be spoilt again: then nothing is promised of the whole
	n       seen
}

// seen is how much of each kind the scripts brought.
type seen map[string]int

func (n seen) atLeast(t *testing.T, least int, names ...string) {
	t.Helper()
	for _, name := range names {
		if n[name] < least {
			t.Errorf("the test says little: %q came %d times: %v", name, n[name], n)
		}
	}
}

func drawConfig(r *rand.Rand) api.Config {
	n := 1 + r.IntN(7)
	return api.Config{N: n, K: 1 + r.IntN(n), Delta: []int{0, 0, 0, 1, 2, api.MaxDelta}[r.IntN(6)]}
}

func newWorld(t *testing.T, r *rand.Rand, config api.Config, clients int, n seen) *world {
	t.Helper()
	return &world{Rand: r, t: t, c: made(t, config, clients), config: config, clients: clients, keys: []string{"k", "j"}[:1+r.IntN(2)], n: n}
}

// step does a step, but leaves out one that would spoil what is spoilt.
func (w *world) step(s api.Step) {
	w.t.Helper()
	before := w.c.Flight()
	at := 0
	if len(before) > 0 {
		at = mod(s.A, len(before))
	}
	spoils := (s.Kind == api.SBurst || s.Kind == api.SCut) && len(before) > 0
	if spoils && w.spoilt[at] && !w.rough {
		return
	}
	es, e := w.c.Do(s)
	after := w.c.Flight()
	switch {
	case len(before) == 0:
	case s.Kind == api.SDeliver || s.Kind == api.SDrop:
		w.spoilt = slices.Delete(w.spoilt, at, at+1)
	case s.Kind == api.SDouble:
		w.spoilt = append(w.spoilt, w.spoilt[at])
	case spoils && !bytes.Equal(before[at].Data, after[at].Data):
		w.spoilt[at] = true
	}
	for len(w.spoilt) < len(after) {
		w.spoilt = append(w.spoilt, false)
	}
	if e == api.OK {
		w.n[fmt.Sprint("step ", s.Kind)]++
	}
	for _, x := range es {
		w.n[fmt.Sprint("event ", x.Kind, x.Put, int(x.Status))]++
	}
}

// next draws a step.
func (w *world) next() api.Step {
	s := api.Step{A: w.IntN(w.config.N), B: w.IntN(9), L: w.list()}
	kinds := []struct{ weight, kind int }{
		{14, api.SPut}, {10, api.SGet}, {2, api.SCancel}, {8, api.STick}, {1, api.SStop},
		{100, api.SDeliver}, {6, api.SDrop}, {5, api.SDouble}, {3, api.SBurst}, {2, api.SCut}, {2, api.SLose},
		{3, api.SCrash}, {9, api.SStart}, {3, api.SDie}, {2, api.SCompact},
	}
	all := 0
	for _, k := range kinds {
		all += k.weight
	}
	pick := w.IntN(all)
	for _, k := range kinds {
		if pick < k.weight {
			s.Kind = k.kind
			break
		}
		pick -= k.weight
	}
	switch s.Kind {
	case api.SPut, api.SGet, api.SCancel, api.STick, api.SStop:
		s.A = 1 + w.IntN(w.clients)
		s.Key = w.keys[w.IntN(len(w.keys))]
		s.Value = []byte(fmt.Sprint("value ", w.IntN(1000)))[:w.IntN(7)]
	case api.SDeliver, api.SDrop, api.SDouble, api.SLose:
		s.A = w.IntN(1<<20) - 1<<19
	case api.SBurst:
		s.A, s.B = w.IntN(1<<20)-1<<19, w.IntN(300)
		s.L = []int{[]int{1, 3, math.MaxUint32, 1<<31 | 1, int(w.Uint32()), 0}[w.IntN(6)]}
	case api.SCut:
		s.A, s.B = w.IntN(1<<20)-1<<19, w.IntN(40)
	}
	return s
}

func (w *world) list() []int {
	l := make([]int, w.IntN(5))
	for i := range l {
		l[i] = w.IntN(60) - 20
	}
	return l
}

// play does steps, of which some are whole rounds.
func (w *world) play(steps int) {
	w.t.Helper()
	for range steps {
		if w.IntN(40) == 0 {
			w.round(w.order())
			continue
		}
		w.step(w.next())
	}
}

// down is how many servers are down.
func (w *world) down() int {
	n := 0
	for i := range w.config.N {
		if !w.c.Up(i) {
			n++
		}
	}
	return n
}

// settle comes to where everything must end: nothing is armed, and no more servers are down than may be, often just so many.
func (w *world) settle() {
	w.t.Helper()
	for i := range w.config.N {
		w.step(die(i, 0))
	}
	most, _ := quorum.Down(w.config)
	if w.IntN(3) == 0 {
		most = w.IntN(most + 1)
	}
	for _, i := range w.Perm(w.config.N) {
		if w.down() > most {
			w.step(start(i))
		} else if w.down() < most && w.IntN(2) == 0 {
			w.step(crash(i, w.list()...))
		}
	}
	for w.down() > most {
		w.step(start(w.IntN(w.config.N)))
	}
	if w.IntN(4) == 0 {
		for len(w.c.Flight()) > 0 {
			w.step(drop(0))
		}
	}
}

// mod is from 0 to m - 1.
func mod(a, m int) int {
	if a %= m; a < 0 {
		a += m
	}
	return a
}

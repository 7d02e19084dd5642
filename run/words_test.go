package run_test

import (
	"fmt"
	"math/rand/v2"
	"slices"
	"strings"
	"testing"

	"sherd/api"
	"sherd/frame"
	"sherd/run"
	"sherd/script"
)

// compare holds Play of the script against the world's own story.
func (w *world) compare() run.Story {
	w.t.Helper()
	got, e := run.Play(w.config, w.clients, w.steps)
	want := w.story()
	if e != api.OK || !sameStory(got, want) {
		for i := range min(len(got.Told), len(want.Told)) {
			if !sameTold(got.Told[i:i+1], want.Told[i:i+1]) {
				w.t.Fatalf("P25.1: step %d, %+v, tells %+v, want %+v", i, w.steps[i], got.Told[i], want.Told[i])
			}
		}
		got.Told, want.Told = nil, nil
		w.t.Fatalf("P25.2: the whole is %+v, %d, want %+v", got, int(e), want)
	}
	w.n[fmt.Sprint("linear ", got.Linear)]++
	w.n[fmt.Sprint("heavy ", got.Heavy)]++
	w.n[fmt.Sprint("by tags ", got.ByTags)]++
	w.n[fmt.Sprint("all up ", !slices.Contains(got.Up, false))]++
	return got
}

// judge looks at what the whole promises.
func (w *world) judge(s run.Story) {
	w.t.Helper()
	if !s.Linear && !s.Heavy || !s.ByTags {
		text, _ := script.Text(w.steps)
		w.t.Fatalf("P25.5: linear %v, heavy %v, by tags %v, of %v, %d clients and\n%s", s.Linear, s.Heavy, s.ByTags, w.config, w.clients, text)
	}
}

// text is the script as a text, with or without an end behind its last line.
func (w *world) text() string {
	w.t.Helper()
	steps, e := script.Text(w.steps)
	if e != api.OK {
		w.t.Fatalf("script.Text is %d", int(e))
	}
	text := fmt.Sprintf("config %d %d %d %d\n", w.config.N, w.config.K, w.config.Delta, w.clients) + steps
	if w.IntN(2) == 0 {
		text = strings.TrimSuffix(text, "\n")
	}
	return text
}

// TestAsTold: drawn scripts of every kind of step, beside the chapter's words; nothing is spoilt twice, so P25.5 holds.
func TestAsTold(t *testing.T) {
	r := rand.New(rand.NewPCG(25, 1))
	n := seen{}
	for i := range 400 {
		w := newWorld(t, r, drawConfig(r), 1+r.IntN(4), n)
		w.stops = i % 3 % 2
		for range r.IntN([]int{300, 300, 1500}[i%3]) {
			w.step(w.next())
		}
		w.judge(w.compare())
		textIs(t, w.text(), storyByWords(w.story()))
	}
	for kind := api.SPut; kind <= api.SRound; kind++ {
		n.atLeast(t, 20, fmt.Sprint("step ", kind, " 0"))
	}
	n.atLeast(t, 10, "heavy true")
	n.atLeast(t, 50, "linear true", "by tags true", "all up true", "all up false", "spoilt")
	n.atLeast(t, 50, "event 2 true 0", "event 2 false 0", "event 2 false 76", "event 3 true 0", "event 3 false 0")
	t.Log(n)
}

// TestLate: scripts in which much comes to its end, and datagrams of what has ended come late.
func TestLate(t *testing.T) {
	r := rand.New(rand.NewPCG(25, 9))
	n := seen{}
	for i := range 600 {
		config := api.Config{N: 2 + r.IntN(4), Delta: r.IntN(2)}
		config.K = 1 + r.IntN(min(config.N, 3))
		w := newWorld(t, r, config, 2+r.IntN(3), n)
		w.calm = true
		w.keys = w.keys[:min(len(w.keys), 1+i%2)]
		for range 100 + r.IntN(500) {
			w.step(w.next())
		}
		w.judge(w.compare())
	}
	n.atLeast(t, 10, "linear true", "heavy true")
	n.atLeast(t, 2000, "event 2 true 0", "event 2 false 0")
	t.Log(n)
}

// bring delivers the first message in flight of that kind, to that server or from it.
func (w *world) bring(server int, kinds ...int) {
	w.t.Helper()
	for _, kind := range kinds {
		at := slices.IndexFunc(w.c.Flight(), func(p api.Packet) bool {
			m, _ := frame.Decode(p.Data)
			return m.Kind == kind && m.Server == server
		})
		if at < 0 {
			w.t.Fatalf("no message of kind %d and server %d is in flight", kind, server)
		}
		w.step(deliver(at))
	}
}

// TestLateFragment: a fragment of an older tag comes once more, when a Get has gone on to a newer one.
func TestLateFragment(t *testing.T) {
	w := newWorld(t, rand.New(rand.NewPCG(25, 10)), api.Config{N: 2, K: 2}, 2, seen{})
	w.step(put(1, "k", "oldvalue"))
	w.step(round(6))
	w.clear()
	w.step(get(2, "k"))
	for server := range 2 {
		w.bring(server, api.Ask, api.Told)
	}
	w.bring(0, api.Read)
	w.step(api.Step{Kind: api.SDouble, A: -1})
	w.step(put(1, "k", "newvalue"))
	for _, kind := range []int{api.Ask, api.Pre, api.Fin} {
		w.bring(0, kind, kind+1)
		w.bring(1, kind, kind+1)
	}
	w.bring(1, api.Read, api.Gave) // it has thrown the older one away
	w.bring(0, api.Gave, api.Gave)
	w.bring(1, api.Read, api.Gave)
	w.bring(0, api.Read, api.Gave)
	s := w.compare()
	w.judge(s)
	if es := s.Told[len(s.Told)-1].Events; len(es) != 1 || string(es[0].Value) != "newvalue" {
		t.Errorf("P25.5: at the end the Get tells %+v", es)
	}
}

// TestOddAsTold: among the steps there are odd ones; they too are told, and play no part in P25.5.
func TestOddAsTold(t *testing.T) {
	r := rand.New(rand.NewPCG(25, 2))
	n := seen{}
	for i := range 300 {
		w := newWorld(t, r, drawConfig(r), r.IntN(4), n)
		w.stops = i % 2
		for range r.IntN(300) {
			if r.IntN(4) == 0 {
				w.step(w.odd())
			} else {
				w.step(w.next())
			}
		}
		w.judge(w.compare())
	}
	for kind := api.SPut; kind <= api.SRound; kind++ {
		n.atLeast(t, 20, fmt.Sprint("step ", kind, " 1"))
	}
	n.atLeast(t, 20, "step 0 1", "step 17 1", "linear true")
	t.Log(n)
}

// TestRoughAsTold: what is spoilt is spoilt again: nothing is promised of the whole, but all is told as it is.
func TestRoughAsTold(t *testing.T) {
	r := rand.New(rand.NewPCG(25, 3))
	n := seen{}
	for range 100 {
		w := newWorld(t, r, drawConfig(r), 1+r.IntN(3), n)
		w.rough = true
		for range r.IntN(300) {
			s := w.next()
			w.step(s)
			for range 5 {
				if s.Kind == api.SBurst {
					s.B = w.IntN(200)
					w.step(s)
				}
			}
		}
		w.compare()
		textIs(t, w.text(), storyByWords(w.story()))
	}
	t.Log(n)
}

// TestLongScripts: as many steps as may be, on greater clusters.
func TestLongScripts(t *testing.T) {
	r := rand.New(rand.NewPCG(25, 4))
	n := seen{}
	for _, config := range []api.Config{{N: 3, K: 2}, {N: 7, K: 2, Delta: 1}, {N: 12, K: 4}} {
		w := newWorld(t, r, config, 3, n)
		for len(w.steps) < api.MaxSteps {
			if s := w.next(); s.Kind != api.SDie || r.IntN(3) == 0 {
				w.step(s)
			}
		}
		w.judge(w.compare())
	}
	n.atLeast(t, 3, "heavy true", "by tags true")
	t.Log(n)
}

// TestFewSteps: all scripts of up to four of a few steps, with two rounds behind.
func TestFewSteps(t *testing.T) {
	few := []api.Step{put(1, "k", "x"), put(2, "k", "y"), get(2, "k"), cancel(1), round(3, 1), deliver(-1), crash(0), start(0), {Kind: api.SDouble}, stop(1)}
	var down func(steps []api.Step)
	r := rand.New(rand.NewPCG(25, 5))
	n := seen{}
	down = func(steps []api.Step) {
		w := newWorld(t, r, api.Config{N: 1, K: 1}, 2, n)
		for _, s := range steps {
			w.step(s)
		}
		w.step(round(2, 1, 1))
		w.judge(w.compare())
		if len(steps) == 4 {
			return
		}
		for _, s := range few {
			down(append(slices.Clone(steps), s))
		}
	}
	down(nil)
	n.atLeast(t, 1000, "linear true", "all up false")
	n.atLeast(t, 50, "event 2 false 76", "event 3 true 0")
}

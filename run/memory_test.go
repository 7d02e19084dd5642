package run_test

import (
	"bytes"
	"math/rand/v2"
	"runtime"
	"slices"
	"strings"
	"sync"
	"testing"
	"time"

	"sherd/api"
	"sherd/run"
)

var three = api.Config{N: 3, K: 1}

// mixed is a script with steps of every kind that brings many events; its lists have spare room in which something stands.
func mixed() []api.Step {
	steps := []api.Step{
		put(1, "k", "value"), put(2, "k", "other"), round(3, 2, -1), {Kind: api.SDouble, A: 1}, {Kind: api.SBurst, A: 2, B: 9, L: []int{77}}, {Kind: api.SCut, A: -1, B: 3},
		{Kind: api.SLose, A: 3}, {Kind: api.SDrop, A: 4}, deliver(5), crash(1, 1, 2, 3), start(1), die(2, 2, 1, 0, 5), round(9, 4, 4, 4), start(2), {Kind: api.SCompact},
		get(1, "k"), get(2, "j"), tick(1), round(4, -3), get(1, "k"), cancel(1), {Kind: 99, L: []int{4}}, {Kind: api.SGet, A: 1, Key: "k", Value: []byte("no")}, round(-1, 5), stop(2), get(1, "k"), round(4, 9, 9),
	}
	for i := range steps {
		steps[i].Value = append(steps[i].Value, "room"...)[:len(steps[i].Value)]
		steps[i].L = append(steps[i].L, 71, 72, 73)[:len(steps[i].L)]
	}
	return append(steps, api.Step{Kind: 77}, put(3, "room", "room"))[:len(steps)]
}

// deep is all of a list, and of its spare room, in memory of its own.
func deep(steps []api.Step) []api.Step {
	all := slices.Clone(steps[:cap(steps)])
	for i := range all {
		all[i].Value = bytes.Clone(all[i].Value[:cap(all[i].Value)])
		all[i].L = slices.Clone(all[i].L[:cap(all[i].L)])
	}
	return all
}

func sameSteps(a, b []api.Step) bool {
	return slices.EqualFunc(a, b, func(x, y api.Step) bool {
		return x.Kind == y.Kind && x.A == y.A && x.B == y.B && x.Key == y.Key && bytes.Equal(x.Value, y.Value) && slices.Equal(x.L, y.L)
	})
}

// copied is a story in memory of its own.
func copied(s run.Story) run.Story {
	s.Up, s.Told = slices.Clone(s.Up), slices.Clone(s.Told)
	for i := range s.Told {
		es := slices.Clone(s.Told[i].Events)
		for j := range es {
			es[j].Value = bytes.Clone(es[j].Value)
		}
		s.Told[i].Events = es
	}
	return s
}

func TestWhatIsGivenIsNotChanged(t *testing.T) {
	for _, steps := range [][]api.Step{mixed(), mixed()[:7], mixed()[:0], slices.Repeat(mixed(), 200)} {
		for _, c := range []api.Config{three, {}} {
			before := deep(steps)
			run.Play(c, 2, steps)
			if !sameSteps(deep(steps), before) {
				t.Errorf("P25.4: of %d steps some were changed", len(steps))
			}
		}
	}
}

func TestWhatIsGivenIsNotKept(t *testing.T) {
	steps := mixed()
	s := played(t, three, 2, steps...)
	want := copied(s)
	events := 0
	for _, told := range s.Told {
		events += len(told.Events)
	}
	if events < 8 {
		t.Fatalf("the test says little: %d events", events)
	}
	for i, x := range deep(steps) {
		whole := steps[:cap(steps)][i]
		for j := range x.Value {
			whole.Value[:cap(whole.Value)][j] = 0xaa
		}
		for j := range x.L {
			whole.L[:cap(whole.L)][j] = -77
		}
		steps[:cap(steps)][i] = api.Step{}
	}
	if !sameStory(s, want) {
		t.Errorf("P25.4: a story changed with what was given")
	}
	if again := played(t, three, 2, mixed()...); !sameStory(again, want) {
		t.Errorf("P25.4: behind that another story is told")
	}
}

// TestWhatIsToldIsNewMemory: who writes into a list of a story, or behind it, writes into nothing else.
func TestWhatIsToldIsNewMemory(t *testing.T) {
	steps := mixed()
	before := deep(steps)
	s, other := played(t, three, 2, steps...), played(t, three, 2, steps...)
	want := copied(s)
	for i := range s.Told {
		for j := range s.Told[i].Events {
			value := s.Told[i].Events[j].Value
			for k := range value[:cap(value)] {
				value[:cap(value)][k] ^= 0xff
			}
			s.Told[i].Events[j].Value = bytes.Clone(want.Told[i].Events[j].Value)
			if !sameStory(s, want) {
				t.Fatalf("P25.4: the value of event %d of step %d shares memory with another", j, i)
			}
		}
		es := s.Told[i].Events
		for j := range es[:cap(es)] {
			es[:cap(es)][j] = api.Event{Kind: 99}
		}
		s.Told[i].Events = want.Told[i].Events
		if !sameStory(s, want) {
			t.Fatalf("P25.4: the events of step %d share memory with others", i)
		}
	}
	for i := range s.Told[:cap(s.Told)] {
		s.Told[:cap(s.Told)][i] = run.Told{Err: 99}
	}
	for i := range s.Up[:cap(s.Up)] {
		s.Up[:cap(s.Up)][i] = false
	}
	if !sameStory(other, want) || !sameStory(played(t, three, 2, steps...), want) || !sameSteps(deep(steps), before) {
		t.Errorf("P25.4: a story shares memory with another, or with the steps")
	}
}

// TestEmptyLists: none and one without elements are the same.
func TestEmptyLists(t *testing.T) {
	steps := mixed()
	want := played(t, three, 2, steps...)
	for i := range steps {
		if len(steps[i].Value) == 0 {
			steps[i].Value = [][]byte{nil, {}, make([]byte, 0, 9)}[i%3]
		}
		if len(steps[i].L) == 0 {
			steps[i].L = [][]int{nil, {}, make([]int, 5)[:0]}[i%3]
		}
	}
	if got := played(t, three, 2, steps...); !sameStory(got, want) {
		t.Errorf("P2: with empty lists in place of none another story is told")
	}
}

// TestAlwaysTheSame: however goroutines run.
func TestAlwaysTheSame(t *testing.T) {
	r := rand.New(rand.NewPCG(25, 8))
	w := newWorld(t, r, api.Config{N: 3, K: 2}, 3, seen{})
	for range 600 {
		w.step(w.next())
	}
	want, text := w.story(), w.text()
	told := storyByWords(want)
	defer runtime.GOMAXPROCS(runtime.GOMAXPROCS(0))
	for _, at := range []int{1, 2, 3, 8} {
		runtime.GOMAXPROCS(at)
		for range 20 {
			if got := played(t, w.config, w.clients, w.steps...); !sameStory(got, want) {
				t.Fatalf("P25.4: another story is told")
			}
			textIs(t, text, told)
		}
	}
}

func TestPlaysBesideEachOther(t *testing.T) {
	steps := mixed()
	want := played(t, three, 2, steps...)
	text := "config 3 1 0 2\nput 1 6b 78\nput 2 6b 79\nround 9\n" + strings.Repeat("get 1 6b\nround 4 1\n", 5)
	told := run.Text(text)
	var group sync.WaitGroup
	fine := make([]bool, 24)
	for i := range fine {
		group.Go(func() {
			s, e := run.Play(three, 2, steps)
			fine[i] = e == api.OK && sameStory(s, want) && run.Text(text) == told
		})
	}
	group.Wait()
	if slices.Contains(fine, false) {
		t.Errorf("P25.4: beside others another story is told")
	}
}

// TestRecordersEnd: none is left behind, of a play that was refused neither.
func TestRecordersEnd(t *testing.T) {
	before := runtime.NumGoroutine()
	for range 200 {
		run.Play(three, 2, mixed())
		run.Play(three, 2, nil)
		run.Play(api.Config{}, 2, mixed())
		run.Play(three, 2, make([]api.Step, 5000))
		run.Text("config 1 1 0 1\ntick 1\n")
		run.Text("config 1 1 0 1\nx\n")
	}
	for range 100 {
		if runtime.NumGoroutine() <= before {
			return
		}
		time.Sleep(10 * time.Millisecond)
	}
	t.Errorf("there were %d goroutines, there are %d", before, runtime.NumGoroutine())
}

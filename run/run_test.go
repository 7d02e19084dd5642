package run_test

import (
	"bytes"
	"fmt"
	"math"
	"slices"
	"strings"
	"testing"

	"sherd/api"
	"sherd/run"
)

func put(a int, key, value string) api.Step {
	return api.Step{Kind: api.SPut, A: a, Key: key, Value: []byte(value)}
}

func get(a int, key string) api.Step { return api.Step{Kind: api.SGet, A: a, Key: key} }

func cancel(a int) api.Step { return api.Step{Kind: api.SCancel, A: a} }

func tick(a int) api.Step { return api.Step{Kind: api.STick, A: a} }

func stop(a int) api.Step { return api.Step{Kind: api.SStop, A: a} }

func deliver(a int) api.Step { return api.Step{Kind: api.SDeliver, A: a} }

func crash(a int, l ...int) api.Step { return api.Step{Kind: api.SCrash, A: a, L: l} }

func start(a int) api.Step { return api.Step{Kind: api.SStart, A: a} }

func die(a, b int, l ...int) api.Step { return api.Step{Kind: api.SDie, A: a, B: b, L: l} }

func round(b int, l ...int) api.Step { return api.Step{Kind: api.SRound, B: b, L: l} }

func sameEvents(a, b []api.Event) bool {
	return slices.EqualFunc(a, b, func(x, y api.Event) bool {
		return x.Kind == y.Kind && x.Client == y.Client && x.Op == y.Op && x.Put == y.Put && x.Key == y.Key && bytes.Equal(x.Value, y.Value) && x.Status == y.Status && x.Tag == y.Tag
	})
}

func sameTold(a, b []run.Told) bool {
	return slices.EqualFunc(a, b, func(x, y run.Told) bool { return x.Err == y.Err && sameEvents(x.Events, y.Events) })
}

func sameStory(a, b run.Story) bool {
	return sameTold(a.Told, b.Told) && a.Flight == b.Flight && slices.Equal(a.Up, b.Up) && a.Linear == b.Linear && a.Heavy == b.Heavy && a.ByTags == b.ByTags
}

// played is the story of steps that are taken.
func played(t *testing.T, c api.Config, clients int, steps ...api.Step) run.Story {
	t.Helper()
	s, e := run.Play(c, clients, steps)
	if e != api.OK {
		t.Fatalf("P25.1: Play(%v, %d, %d steps) is %d", c, clients, len(steps), int(e))
	}
	return s
}

// errorsAre looks at how the steps ended; one with an error has no events.
func errorsAre(t *testing.T, s run.Story, want ...api.Errno) {
	t.Helper()
	if len(s.Told) != len(want) {
		t.Fatalf("P25.2: %d are told, want %d", len(s.Told), len(want))
	}
	for i, told := range s.Told {
		if told.Err != want[i] || told.Err != api.OK && len(told.Events) != 0 {
			t.Errorf("P25.1: step %d: %d and %d events, want %d", i, int(told.Err), len(told.Events), int(want[i]))
		}
	}
}

// wholeIs looks at what is said of the whole.
func wholeIs(t *testing.T, s run.Story, flight int, up []bool, linear, heavy, byTags bool) {
	t.Helper()
	if s.Flight != flight || !slices.Equal(s.Up, up) || s.Linear != linear || s.Heavy != heavy || s.ByTags != byTags {
		t.Errorf("P25.2: %d in flight, up %v, linear %v, heavy %v, by tags %v, want %d, %v, %v, %v, %v", s.Flight, s.Up, s.Linear, s.Heavy, s.ByTags, flight, up, linear, heavy, byTags)
	}
}

func TestFirstExample(t *testing.T) {
	first := api.Tag{Count: 1, Client: 1}
	s := played(t, api.Config{N: 1, K: 1}, 1, put(1, "k", "x"), round(6), get(1, "k"), round(4))
	want := []run.Told{
		{Events: []api.Event{{Kind: api.Invoke, Client: 1, Op: 1, Put: true, Key: "k", Value: []byte("x")}}},
		{Events: []api.Event{{Kind: api.Return, Client: 1, Op: 1, Put: true, Key: "k", Tag: first}}},
		{Events: []api.Event{{Kind: api.Invoke, Client: 1, Op: 2, Key: "k"}}},
		{Events: []api.Event{{Kind: api.Return, Client: 1, Op: 2, Key: "k", Tag: first, Value: []byte("x")}}},
	}
	if !sameTold(s.Told, want) {
		t.Errorf("P25.1: told is %+v, want %+v", s.Told, want)
	}
	wholeIs(t, s, s.Flight, []bool{true}, true, false, true)
}

// TestRefusedPlays: with an error the Story is the zero one; that there are too many steps is said first.
func TestRefusedPlays(t *testing.T) {
	long, just := make([]api.Step, api.MaxSteps+1), make([]api.Step, api.MaxSteps)
	few := []api.Step{put(1, "k", "x"), round(6)}
	for _, x := range []struct {
		c       api.Config
		clients int
		steps   []api.Step
		want    api.Errno
	}{
		{api.Config{}, 1, nil, api.ErrConfig},
		{api.Config{}, 1, few, api.ErrConfig},
		{api.Config{N: 3, K: 4}, 1, few, api.ErrConfig},
		{api.Config{N: 256, K: 1}, 1, few, api.ErrConfig},
		{api.Config{N: 3, K: 1, Delta: -1}, 1, few, api.ErrConfig},
		{api.Config{N: 3, K: 1, Delta: api.MaxDelta + 1}, 1, few, api.ErrConfig},
		{api.Config{N: math.MinInt, K: math.MaxInt}, math.MinInt, few, api.ErrConfig},
		{api.Config{N: 3, K: 4}, 256, just, api.ErrConfig},
		{api.Config{N: 3, K: 1}, -1, few, api.ErrArg},
		{api.Config{N: 3, K: 1}, 256, few, api.ErrArg},
		{api.Config{N: 3, K: 1}, math.MaxInt, nil, api.ErrArg},
		{api.Config{N: 3, K: 1}, math.MinInt, just, api.ErrArg},
		{api.Config{N: 3, K: 1}, 1, long, api.ErrLong},
		{api.Config{}, 1, long, api.ErrLong},
		{api.Config{N: 3, K: 1}, 256, long, api.ErrLong},
		{api.Config{}, -1, slices.Repeat(few, 5000), api.ErrLong},
	} {
		s, e := run.Play(x.c, x.clients, x.steps)
		if e != x.want || !sameStory(s, run.Story{}) {
			t.Errorf("P25.1: Play(%v, %d, %d steps) is %+v, %d, want %d", x.c, x.clients, len(x.steps), s, int(e), int(x.want))
		}
	}
}

// TestJustSoManySteps: as many as may be, refused ones too.
func TestJustSoManySteps(t *testing.T) {
	s := played(t, api.Config{N: 1, K: 1}, 1, make([]api.Step, api.MaxSteps)...)
	errorsAre(t, s, slices.Repeat([]api.Errno{api.ErrKind}, api.MaxSteps)...)
	wholeIs(t, s, 0, []bool{true}, true, false, true)
	s = played(t, api.Config{N: 1, K: 1}, 1, slices.Repeat([]api.Step{put(1, "k", "x"), tick(1), tick(1), cancel(1)}, api.MaxSteps/4)...)
	errorsAre(t, s, make([]api.Errno, api.MaxSteps)...)
	wholeIs(t, s, api.MaxSteps/4*3, []bool{true}, false, true, true)
}

// TestNoSteps: configs and clients at their edges.
func TestNoSteps(t *testing.T) {
	for _, c := range []api.Config{{N: 1, K: 1}, {N: 255, K: 1}, {N: 255, K: 255, Delta: api.MaxDelta}, {N: 7, K: 3, Delta: 2}} {
		for _, clients := range []int{0, 1, 255} {
			for _, none := range [][]api.Step{nil, {}} {
				s := played(t, c, clients, none...)
				errorsAre(t, s)
				wholeIs(t, s, 0, slices.Repeat([]bool{true}, c.N), true, false, true)
			}
		}
	}
}

// TestRefusedSteps: those that are refused leave no trace, and what follows is done all the same.
func TestRefusedSteps(t *testing.T) {
	bad := []struct {
		s    api.Step
		want api.Errno
	}{
		{api.Step{}, api.ErrKind},
		{api.Step{Kind: -1}, api.ErrKind},
		{api.Step{Kind: 17}, api.ErrKind},
		{api.Step{Kind: math.MinInt, A: 1, B: 1, Key: "k"}, api.ErrKind},
		{api.Step{Kind: api.STick, A: 1, B: 1}, api.ErrArg}, // the cluster would take these
		{api.Step{Kind: api.STick, A: 1, L: []int{0}}, api.ErrArg},
		{api.Step{Kind: api.SPut, A: 1, Key: "k", B: 1}, api.ErrArg},
		{api.Step{Kind: api.SGet, A: 1, Key: "k", Value: []byte("x")}, api.ErrArg},
		{api.Step{Kind: api.SDeliver, Key: "k"}, api.ErrArg},
		{api.Step{Kind: api.SDrop, B: -1}, api.ErrArg},
		{api.Step{Kind: api.SBurst}, api.ErrArg},
		{api.Step{Kind: api.SBurst, L: []int{-1}}, api.ErrArg},
		{api.Step{Kind: api.SBurst, L: []int{1 << 32}}, api.ErrArg},
		{api.Step{Kind: api.SBurst, L: []int{1, 1}}, api.ErrArg},
		{api.Step{Kind: api.SCrash, A: 0, B: 1}, api.ErrArg},
		{api.Step{Kind: api.SStop, A: 1, Value: []byte("x")}, api.ErrArg},
		{api.Step{Kind: api.STick, A: 9, B: 1}, api.ErrArg}, // this is said ahead of what the cluster would say
		{api.Step{Kind: api.SRound, A: 1, B: 2}, api.ErrArg},
		{api.Step{Kind: api.SRound, B: 2, Key: "k"}, api.ErrArg},
		{api.Step{Kind: api.SRound, B: 2, Value: []byte("x")}, api.ErrArg},
		{round(-1), api.ErrArg},
		{round(math.MinInt), api.ErrArg},
		{round(api.MaxSteps + 1), api.ErrArg},
		{round(math.MaxInt, 1, 2), api.ErrArg},
		{tick(0), api.ErrNode}, // these are the cluster's own
		{tick(2), api.ErrNode},
		{put(1, "", "x"), api.ErrKey},
		{put(1, "k", strings.Repeat("x", api.MaxValue+1)), api.ErrValue},
		{get(1, strings.Repeat("k", api.MaxKey+1)), api.ErrKey},
		{cancel(1), api.ErrIdle},
		{start(0), api.ErrUp},
		{crash(1), api.ErrNode},
		{die(0, -1), api.ErrArg},
		{deliver(0), api.ErrNone},
		{api.Step{Kind: api.SBurst, L: []int{1}}, api.ErrNone},
	}
	good := []api.Step{put(1, "k", "x"), round(6), get(1, "k"), round(4)}
	plain := played(t, api.Config{N: 1, K: 1}, 1, good...)
	var steps []api.Step
	var want []api.Errno
	for _, x := range bad { // at the beginning the last ones too can't be done
		steps, want = append(steps, x.s), append(want, x.want)
	}
	for _, g := range good {
		steps, want = append(steps, g), append(want, api.OK)
		for _, x := range bad {
			if x.want != api.ErrIdle && x.want != api.ErrNone && x.want != api.ErrKey && x.want != api.ErrValue {
				steps, want = append(steps, x.s), append(want, x.want)
			}
		}
	}
	s := played(t, api.Config{N: 1, K: 1}, 1, steps...)
	errorsAre(t, s, want...)
	wholeIs(t, s, plain.Flight, plain.Up, true, false, true)
	var taken []run.Told
	for _, told := range s.Told {
		if told.Err == api.OK {
			taken = append(taken, told)
		}
	}
	if !sameTold(taken, plain.Told) {
		t.Errorf("P25.1: beside refused ones the steps tell %+v, want %+v", taken, plain.Told)
	}
}

// TestRounds: so many as B says, each by the order L, with the events of all.
func TestRounds(t *testing.T) {
	c := api.Config{N: 1, K: 1}
	for b, events := range map[int]int{0: 0, 1: 0, 5: 0, 6: 1, 7: 1, 40: 1} {
		s := played(t, c, 1, put(1, "k", "x"), round(b))
		if errorsAre(t, s, api.OK, api.OK); len(s.Told[1].Events) != events {
			t.Errorf("P25.1: %d rounds bring %d events, want %d", b, len(s.Told[1].Events), events)
		}
	}
	if s := played(t, c, 1, put(1, "k", "x"), round(0)); s.Flight != 1 {
		t.Errorf("P25.1: behind no round %d are in flight, want 1", s.Flight)
	}
	if s := played(t, c, 1, put(1, "k", "x"), crash(0), round(api.MaxSteps)); s.Flight != 1+api.MaxSteps {
		t.Errorf("P25.1: behind %d rounds that deliver nothing %d are in flight", api.MaxSteps, s.Flight)
	}
	one, two := put(1, "k", "x"), put(2, "j", "y")
	for _, l := range [][]int{nil, {1}, {-1, -1, -1, -1, -1, -1}, {math.MinInt, 3, 5}} {
		whole := played(t, api.Config{N: 3, K: 1}, 2, one, two, round(9, l...))
		var apart []api.Event
		s := played(t, api.Config{N: 3, K: 1}, 2, append([]api.Step{one, two}, slices.Repeat([]api.Step{round(1, l...)}, 9)...)...)
		for _, told := range s.Told[2:] {
			apart = append(apart, told.Events...)
		}
		if len(apart) != 2 || !sameEvents(whole.Told[2].Events, apart) || whole.Flight != s.Flight {
			t.Errorf("P25.1: nine rounds by %v bring %+v, one by one %+v", l, whole.Told[2].Events, apart)
		}
	}
}

// TestOrderOfRounds: of two Puts at once the order of the last round says which returns first.
func TestOrderOfRounds(t *testing.T) {
	for _, x := range []struct {
		l    []int
		want string
	}{{nil, "1 2"}, {[]int{0, 0, 0}, "1 2"}, {[]int{1, 1, 1, 1}, "2 1"}, {[]int{-1, -1, -1, -1}, "2 1"}} {
		s := played(t, api.Config{N: 1, K: 1}, 2, put(1, "k", "x"), put(2, "k", "y"), round(5), round(1, x.l...))
		var clients []string
		for _, e := range s.Told[3].Events {
			clients = append(clients, fmt.Sprint(e.Client))
		}
		if got := strings.Join(clients, " "); got != x.want {
			t.Errorf("P25.1: by %v there return %q, want %q", x.l, got, x.want)
		}
	}
}

// TestUp: each server by its number, at the end.
func TestUp(t *testing.T) {
	c := api.Config{N: 4, K: 2}
	for mask := range 16 {
		up := make([]bool, 4)
		steps := []api.Step{put(1, "k", "x"), round(9)}
		for i := range up {
			steps = append(steps, crash(i))
			if up[i] = mask>>i&1 == 1; up[i] {
				steps = append(steps, start(i))
			}
		}
		s := played(t, c, 1, steps...)
		errorsAre(t, s, make([]api.Errno, len(steps))...)
		wholeIs(t, s, s.Flight, up, true, false, true)
	}
	s := played(t, c, 1, die(2, 1), put(1, "k", "x"), round(6)) // it dies meanwhile
	wholeIs(t, s, s.Flight, []bool{true, true, false, true}, true, false, true)
}

// TestHeavyStories: one call more of a key than are gone through; what the tags tell is looked at all the same.
func TestHeavyStories(t *testing.T) {
	c := api.Config{N: 1, K: 1}
	one := []api.Step{put(1, "k", "x"), round(6)}
	s := played(t, c, 1, slices.Repeat(one, api.MaxCalls)...)
	wholeIs(t, s, s.Flight, []bool{true}, true, false, true)
	s = played(t, c, 1, slices.Repeat(one, api.MaxCalls+1)...)
	wholeIs(t, s, s.Flight, []bool{true}, false, true, true)
	other := []api.Step{put(1, "j", "x"), round(6)} // of another key there may be as many again
	s = played(t, c, 1, append(slices.Repeat(one, api.MaxCalls), slices.Repeat(other, api.MaxCalls)...)...)
	wholeIs(t, s, s.Flight, []bool{true}, true, false, true)
	s = played(t, c, 1, slices.Repeat([]api.Step{get(1, "k"), cancel(1)}, 100)...) // these have no part
	wholeIs(t, s, s.Flight, []bool{true}, true, false, true)
}

// TestManyKeysOfOneClient: the calls of a key are not a history of their own.
func TestManyKeysOfOneClient(t *testing.T) {
	var steps []api.Step
	for i := range 60 {
		key := string(rune('a' + i%7))
		steps = append(steps, put(1, key, fmt.Sprint(i)), round(6), get(2, key), get(1, key), round(4))
	}
	s := played(t, api.Config{N: 1, K: 1}, 2, steps...)
	errorsAre(t, s, make([]api.Errno, len(steps))...)
	wholeIs(t, s, s.Flight, []bool{true}, false, true, true)
	if s = played(t, api.Config{N: 1, K: 1}, 2, steps[:5*7*8]...); !s.Linear || !s.ByTags {
		t.Errorf("P25.5: linear %v, by tags %v", s.Linear, s.ByTags)
	}
}

// TestOpenPutsOfOneClient: of those that tell no tag the last one has what a Get tells, so the order of the calls counts.
func TestOpenPutsOfOneClient(t *testing.T) {
	c := api.Config{N: 1, K: 1}
	steps := []api.Step{put(1, "k", "x"), cancel(1), put(1, "k", "y"), cancel(1), put(1, "k", "z"), {Kind: api.SDrop}, {Kind: api.SDrop}}
	steps = append(steps, slices.Repeat([]api.Step{deliver(0)}, 5)...) // the third Put's Fin has come, its Done has not
	steps = append(steps, stop(1), get(2, "k"), round(4))
	s := played(t, c, 2, steps...)
	errorsAre(t, s, make([]api.Errno, len(steps))...)
	var came []api.Event
	for _, told := range s.Told[5:] {
		came = append(came, told.Events...)
	}
	if len(came) != 2 || string(came[1].Value) != "z" {
		t.Fatalf("the test says little: behind the last Put there came %+v", came)
	}
	wholeIs(t, s, s.Flight, []bool{true}, true, false, true)
}

// TestEachPlayBeginsAnew: nothing is left of one in the next.
func TestEachPlayBeginsAnew(t *testing.T) {
	c := api.Config{N: 2, K: 1}
	for range 3 {
		s := played(t, c, 1, get(1, "k"), round(2))
		if es := s.Told[1].Events; len(es) != 1 || es[0].Status != api.ErrAbsent {
			t.Fatalf("P5: a Get on a new cluster tells %+v", es)
		}
		played(t, c, 1, put(1, "k", "x"), round(9), crash(0), stop(1))
	}
}

package script_test

import (
	"bytes"
	"slices"
	"strings"
	"sync"
	"testing"

	"sherd/api"
	"sherd/script"
)

// mixed is steps of several kinds; they, their values and their lists have spare room in which something stands.
func mixed() []api.Step {
	var steps []api.Step
	for _, line := range goodLines() {
		s := rows()[line]
		s.Value = append(s.Value, "room"...)[:len(s.Value)]
		s.L = append(s.L, 71, 72, 73)[:len(s.L)]
		steps = append(steps, s)
	}
	return append(steps, api.Step{Kind: 77}, api.Step{Kind: 78})[:len(steps)]
}

// deep is all of a list, and of its spare room, in memory of its own.
func deep(steps []api.Step) []api.Step {
	all := slices.Clone(steps[:cap(steps)])
	for i := range all {
		all[i].Value = bytes.Clone(all[i].Value[:cap(all[i].Value)])
		all[i].L = slices.Clone(all[i].L[:cap(all[i].L)])
	}
	return all
}

// scrawl writes all over a step's lists, their spare room too.
func scrawl(s api.Step) {
	for i := range s.Value[:cap(s.Value)] {
		s.Value[:cap(s.Value)][i] = 0xaa
	}
	for i := range s.L[:cap(s.L)] {
		s.L[:cap(s.L)][i] = -77
	}
}

func TestWhatIsGivenIsNotChanged(t *testing.T) {
	bad := mixed()
	bad[3].Kind = 17
	for _, steps := range [][]api.Step{mixed(), bad, mixed()[:5], mixed()[:0]} {
		before := deep(steps)
		for _, s := range steps {
			script.Check(s)
			script.Line(s)
		}
		script.Text(steps)
		if !sameSteps(deep(steps), before) {
			t.Errorf("P2: what was given was changed: %s", short(steps))
		}
	}
}

func TestWhatIsGivenIsNotKept(t *testing.T) {
	steps := mixed()
	text, _ := script.Text(steps)
	line, _ := script.Line(steps[0])
	wantText, wantLine := strings.Clone(text), strings.Clone(line)
	for i := range steps {
		scrawl(steps[i])
		steps[i] = api.Step{}
	}
	if text != wantText || line != wantLine {
		t.Errorf("P2: a text changed with what was given")
	}
	if again, e := script.Text(mixed()); again != wantText || e != api.OK {
		t.Errorf("P2: Text is %s, %d behind that", short(again), int(e))
	}
}

// TestWhatIsToldIsNewMemory: who writes into steps, and behind their lists, writes into nothing else.
func TestWhatIsToldIsNewMemory(t *testing.T) {
	text, _ := script.Text(mixed())
	text += text // so that each line is there twice
	steps, _, e := script.Parse(text)
	again, _, f := script.Parse(text)
	if e != api.OK || f != api.OK || !sameSteps(steps, again) {
		t.Fatalf("T2: Parse is %d, and a second time %d", int(e), int(f))
	}
	want := deep(again)[:len(again)]
	for i := range want {
		want[i].Value = want[i].Value[:len(again[i].Value)]
		want[i].L = want[i].L[:len(again[i].L)]
	}
	for i := range steps {
		scrawl(steps[i])
		if !sameSteps(steps[i+1:], want[i+1:]) || !sameSteps(again, want) {
			t.Fatalf("P2: what was told at %d shares memory with another", i)
		}
	}
	for i := range steps[:cap(steps)] {
		steps[:cap(steps)][i] = api.Step{Kind: 99}
	}
	if third, _, _ := script.Parse(text); !sameSteps(again, want) || !sameSteps(third, want) {
		t.Errorf("P2: a list that was told shares memory with another")
	}
}

// TestEmptyLists: none and one without elements are the same.
func TestEmptyLists(t *testing.T) {
	for kind := range 18 {
		a, e := script.Line(api.Step{Kind: kind})
		b, f := script.Line(api.Step{Kind: kind, Value: []byte{}, L: []int{}})
		c, g := script.Line(api.Step{Kind: kind, Value: make([]byte, 0, 9), L: make([]int, 5)[:0]})
		if a != b || a != c || e != f || e != g {
			t.Errorf("P2: kind %d: %q, %d; %q, %d; %q, %d", kind, a, int(e), b, int(f), c, int(g))
		}
	}
	if text, e := script.Text([]api.Step{}); text != "" || e != api.OK {
		t.Errorf("P2: Text of an empty list is %q, %d", text, int(e))
	}
}

// TestNothingIsKeptFromCallToCall: what was asked ahead, and what was refused, plays no part.
func TestNothingIsKeptFromCallToCall(t *testing.T) {
	for range 3 {
		if _, n, e := script.Parse("tick 1\nx"); n != 1 || e != api.ErrScript {
			t.Errorf("P3: Parse is %d, %d", n, int(e))
		}
		if steps, n, e := script.Parse("crash 1 2 3"); len(steps) != 1 || n != 0 || e != api.OK {
			t.Errorf("P3: Parse is %v, %d, %d", steps, n, int(e))
		}
		if line, e := script.Line(api.Step{Kind: api.SCrash, A: 1}); line != "crash 1" || e != api.OK {
			t.Errorf("P3: Line is %q, %d", line, int(e))
		}
		if c, n, e := script.Config("config 3 4 0 1"); c != (api.Config{}) || n != 0 || e != api.ErrConfig {
			t.Errorf("P3: Config is %v, %d, %d", c, n, int(e))
		}
	}
}

func TestCallsBesideEachOther(t *testing.T) {
	steps := mixed()
	text, _ := script.Text(steps)
	var group sync.WaitGroup
	fine := make([]bool, 16)
	for i := range fine {
		group.Go(func() {
			again, e := script.Text(steps)
			back, _, f := script.Parse(text)
			c, n, g := script.Config("config 3 1 0 2")
			fine[i] = again == text && sameSteps(back, steps) && c.N == 3 && n == 2 && e == api.OK && f == api.OK && g == api.OK
		})
	}
	group.Wait()
	if slices.Contains(fine, false) {
		t.Errorf("P3: beside others a script is told otherwise")
	}
}

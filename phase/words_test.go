package phase_test

import (
	"fmt"
	"math/rand/v2"
	"slices"
	"strings"
	"testing"

	"sherd/api"
	"sherd/phase"
)

// The chapter told a second time: a paper is all that was ever answered, line by line as it came, gone through from one end for each question.

type line struct {
	server int
	v      string
}

type paper struct {
	c     api.Config
	lines []line
}

// is tells whether there is such a server.
func (p *paper) is(server int) bool { return 0 <= server && server < p.c.N }

func (p *paper) get(server int) (string, bool) {
	for i := len(p.lines) - 1; i >= 0; i-- {
		if p.lines[i].server == server {
			return p.lines[i].v, true
		}
	}
	return "", false
}

func (p *paper) answer(server int, v string) (bool, api.Errno) {
	if !p.is(server) {
		return false, api.ErrNode
	}
	_, had := p.get(server)
	p.lines = append(p.lines, line{server, v})
	return !had, api.OK
}

func (p *paper) each() []line {
	var each []line
	for server := range p.c.N {
		if v, has := p.get(server); has {
			each = append(each, line{server, v})
		}
	}
	return each
}

func (p *paper) missing() []int {
	var missing []int
	for server := range p.c.N {
		if _, has := p.get(server); !has {
			missing = append(missing, server)
		}
	}
	return missing
}

// met: Q is at least half of N + K.
func (p *paper) met() bool {
	n := len(p.each())
	return n+n >= p.c.N+p.c.K
}

// told is all that Each gives to a yield that answers true.
func told(p *phase.Phase[string]) []line {
	var all []line
	p.Each(func(server int, v string) bool {
		all = append(all, line{server, v})
		return true
	})
	return all
}

// same asks all that can be asked.
func same(t *testing.T, p *phase.Phase[string], w *paper, at string) {
	t.Helper()
	if got, want := p.Met(), w.met(); got != want {
		t.Fatalf("P17.3: %s: Met is %v, want %v", at, got, want)
	}
	if got, want := p.Len(), len(w.each()); got != want {
		t.Fatalf("P17.3: %s: Len is %d, want %d", at, got, want)
	}
	if got, want := p.Missing(), w.missing(); !slices.Equal(got, want) {
		t.Fatalf("P17.3: %s: Missing is %v, want %v", at, got, want)
	}
	for server := -2; server <= w.c.N+2; server++ {
		v, has := p.Get(server)
		wantV, wantHas := w.get(server)
		if v != wantV || has != wantHas {
			t.Fatalf("P17.3: %s: Get of %d is %q, %v, want %q, %v", at, server, v, has, wantV, wantHas)
		}
	}
	if got, want := told(p), w.each(); !slices.Equal(got, want) {
		t.Fatalf("P17.4: %s: Each gives %v, want %v", at, got, want)
	}
}

// both are a phase and its paper.
func both(t *testing.T, c api.Config) (*phase.Phase[string], *paper) {
	t.Helper()
	p, e := phase.New[string](c)
	if p == nil || e != api.OK {
		t.Fatalf("P17.1: New of %v is %v, %d", c, p, e)
	}
	return p, &paper{c: c}
}

// say answers into both.
func say(t *testing.T, p *phase.Phase[string], w *paper, l line, at string) {
	t.Helper()
	first, e := p.Answer(l.server, l.v)
	if wantFirst, wantErr := w.answer(l.server, l.v); first != wantFirst || e != wantErr {
		t.Fatalf("P17.2: %s: Answer of %d, %q is %v, %d, want %v, %d", at, l.server, l.v, first, e, wantFirst, wantErr)
	}
}

// scripts gives all lists of just n lines out of these.
func scripts(of []line, n int, yield func([]line)) {
	list := make([]line, n)
	var fill func(at int)
	fill = func(at int) {
		if at == n {
			yield(list)
			return
		}
		for _, l := range of {
			list[at] = l
			fill(at + 1)
		}
	}
	fill(0)
}

// lines are all answers of servers from -1 to n, with these texts.
func lines(n int, texts ...string) []line {
	var of []line
	for server := -1; server <= n; server++ {
		for _, v := range texts {
			of = append(of, line{server, v})
		}
	}
	return of
}

// TestAllShortScripts: every script of up to four answers, of all configs of up to three servers.
func TestAllShortScripts(t *testing.T) {
	for n := 1; n <= 3; n++ {
		for k := 1; k <= n; k++ {
			for length := range 5 {
				scripts(lines(n, "a", ""), length, func(list []line) {
					p, w := both(t, api.Config{N: n, K: k, Delta: length})
					same(t, p, w, "new")
					for i, l := range list {
						say(t, p, w, l, fmt.Sprint(list[:i]))
						same(t, p, w, fmt.Sprint(list[:i+1]))
					}
				})
			}
		}
	}
}

// TestAllOrders: servers that answer in every order there is, with every K.
func TestAllOrders(t *testing.T) {
	const n = 5
	for k := 1; k <= n; k++ {
		var down func(order []int)
		down = func(order []int) {
			if len(order) < n {
				for server := range n {
					if !slices.Contains(order, server) {
						down(append(slices.Clip(order), server))
					}
				}
				return
			}
			p, w := both(t, api.Config{N: n, K: k})
			for i, server := range order {
				say(t, p, w, line{server, fmt.Sprint(i)}, fmt.Sprint(order[:i]))
				same(t, p, w, fmt.Sprint(order[:i+1]))
			}
		}
		down(nil)
	}
}

// TestLongScripts: configs of all sizes, till all have answered and beyond; what was met once is so at each later question.
func TestLongScripts(t *testing.T) {
	rnd := rand.New(rand.NewPCG(17, 1))
	met, full, refused := 0, 0, 0
	for range 150 {
		n := 1 + rnd.IntN(1+rnd.IntN(api.MaxServers))
		c := api.Config{N: n, K: 1 + rnd.IntN(n), Delta: rnd.IntN(3)}
		p, w := both(t, c)
		was := false
		for i := range 3 * n {
			l := line{rnd.IntN(n+4) - 2, strings.Repeat("x", rnd.IntN(3)) + fmt.Sprint(i)}
			say(t, p, w, l, fmt.Sprint(c, i))
			if !w.is(l.server) {
				refused++
			}
			if was && !p.Met() {
				t.Fatalf("P17.5: %v: it was met, and is not behind answer %d", c, i)
			}
			was = p.Met()
			if i%(1+n/8) == 0 || i == 3*n-1 {
				same(t, p, w, fmt.Sprint(c, i))
			}
		}
		if p.Met() {
			met++
		}
		if p.Len() == n {
			full++
		}
	}
	if met < 50 || full < 5 || full > 145 || refused < 100 {
		t.Fatalf("the test says little: %d met, %d full, %d refused", met, full, refused)
	}
}

// TestMeanwhile: each yield answers into the phase by chance, may end Each, and may begin a second one inside it: what is given is the paper as it was at the beginning.
func TestMeanwhile(t *testing.T) {
	rnd := rand.New(rand.NewPCG(17, 4))
	ended, changed, inner := 0, 0, 0
	for round := range 3000 {
		n := 1 + rnd.IntN(9)
		p, w := both(t, api.Config{N: n, K: 1 + rnd.IntN(n)})
		drawn := func() line { return line{rnd.IntN(n+2) - 1, fmt.Sprint(rnd.IntN(100))} }
		for range rnd.IntN(2 * n) {
			say(t, p, w, drawn(), "ahead")
		}
		want := w.each()
		stop := rnd.IntN(n + 2)
		if stop >= len(want) {
			stop = len(want)
		} else {
			ended++
			want = want[:stop+1]
		}
		var got []line
		p.Each(func(server int, v string) bool {
			at := fmt.Sprint("round ", round, " in ", server)
			got = append(got, line{server, v})
			for range rnd.IntN(4) {
				say(t, p, w, drawn(), at)
				changed++
			}
			if rnd.IntN(3) == 0 {
				same(t, p, w, at)
				inner++
			}
			return len(got) <= stop
		})
		if !slices.Equal(got, want) {
			t.Fatalf("P17.4: round %d: Each gives %v, want %v", round, got, want)
		}
		same(t, p, w, fmt.Sprint("behind round ", round))
	}
	if ended < 500 || changed < 1000 || inner < 1000 {
		t.Fatalf("the test says little: %d ended, %d changed, %d inner", ended, changed, inner)
	}
}

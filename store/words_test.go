package store_test

import (
	"bytes"
	"fmt"
	"math/big"
	"math/rand/v2"
	"slices"
	"testing"

	"sherd/api"
	"sherd/cluster"
	"sherd/fair"
	"sherd/quorum"
	"sherd/store"
)

// paper is a second telling of the chapter: a cluster to which each step is done as its words say.
type paper struct {
	t      *testing.T
	c      *cluster.Cluster
	config api.Config
	noise  []int
	rounds int
	n      seen
}

// seen is how much of each kind came.
type seen map[string]int

func (n seen) atLeast(t *testing.T, least int, names ...string) {
	t.Helper()
	for _, name := range names {
		if n[name] < least {
			t.Errorf("the test says little: %q came %d times: %v", name, n[name], n)
		}
	}
}

func newPaper(t *testing.T, config api.Config, n seen) *paper {
	t.Helper()
	c, e := cluster.New(config, 1)
	if e != api.OK {
		t.Fatalf("cluster.New is %d", int(e))
	}
	return &paper{t: t, c: c, config: config, n: n}
}

func (p *paper) down() int {
	n := 0
	for i := range p.config.N {
		if !p.c.Up(i) {
			n++
		}
	}
	return n
}

// must does a step that is never refused.
func (p *paper) must(s api.Step) {
	p.t.Helper()
	if _, e := p.c.Do(s); e != api.OK {
		p.t.Fatalf("%+v is %d", s, int(e))
	}
}

func (p *paper) put(key string, value []byte) api.Errno {
	if len(key) < 1 || len(key) > 64 {
		return api.ErrKey
	}
	if len(value) > 65536 {
		return api.ErrValue
	}
	if most, _ := quorum.Down(p.config); p.down() > most {
		return api.ErrDown
	}
	return p.until(api.Step{Kind: api.SPut, A: 1, Key: key, Value: value}).Status
}

func (p *paper) get(key string) ([]byte, api.Errno) {
	if len(key) < 1 || len(key) > 64 {
		return nil, api.ErrKey
	}
	if most, _ := quorum.Down(p.config); p.down() > most {
		return nil, api.ErrDown
	}
	e := p.until(api.Step{Kind: api.SGet, A: 1, Key: key})
	return e.Value, e.Status
}

// until does rounds as long as something is under way: the last event of the history.
func (p *paper) until(s api.Step) api.Event {
	p.t.Helper()
	p.must(s)
	for p.rounds = 0; ; {
		if _, _, _, _, _, e := p.c.Now(1); e == api.ErrIdle {
			es := p.c.History()
			return es[len(es)-1]
		}
		p.round()
		p.rounds++
	}
}

func (p *paper) round() {
	if len(p.noise) == 0 {
		p.n["fair rounds"]++
		fair.Round(p.c, nil)
		return
	}
	p.n["noisy rounds"]++
	todo := slices.Repeat([]bool{true}, len(p.c.Flight())) // by the numbers in flight
	for at := slices.Index(todo, true); at >= 0; at = slices.Index(todo, true) {
		number := 0
		if len(p.noise) > 0 {
			number, p.noise = p.noise[0], p.noise[1:]
		} else {
			p.n["behind the last number"]++
		}
		if p.happens(at, number) {
			todo[at] = false
		} else {
			todo = slices.Delete(todo, at, at+1)
		}
		for len(todo) < len(p.c.Flight()) {
			todo = append(todo, false) // sent meanwhile, or a copy
		}
	}
	p.must(api.Step{Kind: api.STick, A: 1})
}

// happens has a number of the noise happen to a datagram: whether it is held back.
func (p *paper) happens(at, number int) bool {
	p.t.Helper()
	whole, rest := new(big.Int).DivMod(big.NewInt(int64(number)), big.NewInt(5), new(big.Int))
	p.n[fmt.Sprint("fate ", rest)]++
	deliver := api.Step{Kind: api.SDeliver, A: at}
	switch rest.Int64() {
	case 0:
		p.must(deliver)
	case 1:
		p.must(api.Step{Kind: api.SDrop, A: at})
	case 2:
		p.must(api.Step{Kind: api.SDouble, A: at})
		p.must(deliver)
	case 3:
		bits := big.NewInt(int64(8 * len(p.c.Flight()[at].Data)))
		p.must(api.Step{Kind: api.SBurst, A: at, B: int(whole.Mod(whole, bits).Int64()), L: []int{1}})
		p.must(deliver)
	case 4:
		return true
	}
	return false
}

func (p *paper) bytes() int {
	n := 0
	for i := range p.config.N {
		held, e := p.c.Table(i)
		if e != api.OK {
			continue
		}
		for _, h := range held {
			for _, x := range h.Entries {
				if x.Has {
					n += len(x.Data)
				}
			}
		}
	}
	return n
}

// pair is a store and its paper, which are told the same.
type pair struct {
	*paper
	s    *store.Store
	said []string // the calls, for whoever wants to see what went wrong
}

func newPair(t *testing.T, config api.Config, n seen) *pair {
	t.Helper()
	return &pair{paper: newPaper(t, config, n), s: made(t, config.N, config.K, config.Delta)}
}

func (p *pair) say(call string, args ...any) {
	p.said = append(p.said, fmt.Sprint(append([]any{call}, args...)...))
}

// status holds an answer against the paper's, and then all that the two tell of themselves.
func (p *pair) status(got, want api.Errno) {
	p.t.Helper()
	last := p.said[len(p.said)-1]
	if got != want {
		p.t.Fatalf("P28.2: of %+v %s is %d, want %d, behind %q", p.config, last, int(got), int(want), p.said)
	}
	up := p.config.N - p.down()
	if p.s.Up() != up || p.s.Rounds() != p.rounds || p.s.Bytes() != p.bytes() {
		p.t.Fatalf("P28.6: of %+v Up, Rounds, Bytes are %d, %d, %d, want %d, %d, %d, behind %q", p.config, p.s.Up(), p.s.Rounds(), p.s.Bytes(), up, p.rounds, p.bytes(), p.said)
	}
	if got, want := p.s.Inside().State(), p.c.State(); got != want {
		p.t.Fatalf("P28.3: of %+v it is come to\n%s, want\n%s, behind %q", p.config, got, want, p.said)
	}
}

func (p *pair) Put(key string, value []byte) api.Errno {
	p.t.Helper()
	p.say("put ", key, len(value))
	e := p.s.Put(key, value)
	p.status(e, p.put(key, value))
	p.n[fmt.Sprint("put ", int(e))]++
	return e
}

func (p *pair) Get(key string) ([]byte, api.Errno) {
	p.t.Helper()
	p.say("get ", key)
	value, e := p.s.Get(key)
	want, status := p.get(key)
	p.status(e, status)
	if !bytes.Equal(value, want) {
		p.t.Fatalf("P28.3: Get of %q is %q, want %q, behind %q", key, value, want, p.said)
	}
	p.n[fmt.Sprint("get ", int(e))]++
	return value, e
}

func (p *pair) Noise(choices []int) {
	p.t.Helper()
	p.say("noise ", choices)
	p.s.Noise(choices)
	p.noise = slices.Clone(choices)
	p.status(api.OK, api.OK)
	p.n["noise"]++
}

// Do is a server's step.
func (p *pair) Do(s api.Step) api.Errno {
	p.t.Helper()
	p.say("step ", s)
	_, want := p.c.Do(s)
	e := api.OK
	switch s.Kind {
	case api.SCrash:
		e = p.s.Crash(s.A, s.L)
	case api.SStart:
		e = p.s.Start(s.A)
	case api.SCompact:
		e = p.s.Compact(s.A)
	}
	p.status(e, want)
	p.n[fmt.Sprint("step ", s.Kind, " ", int(e))]++
	return e
}

func (p *pair) history() {
	p.t.Helper()
	if got, want := p.s.History(), p.c.History(); !sameEvents(got, want) {
		p.t.Fatalf("P28.6: History is %+v, want %+v, behind %q", got, want, p.said)
	}
}

// TestAsTold: long lists of calls of every kind, right and wrong, beside the chapter's words.
func TestAsTold(t *testing.T) {
	r := rand.New(rand.NewPCG(28, 1))
	n := seen{}
	for range 400 {
		p := newPair(t, drawConfig(r), n)
		d := newDrawer(r, p.config)
		for range r.IntN(60) {
			d.call(p)
		}
		p.history()
	}
	n.atLeast(t, 100, "put 0", "put 72", "put 74", "get 0", "get 72", "get 74", "get 76", "noise", "fair rounds", "noisy rounds", "behind the last number")
	n.atLeast(t, 500, "fate 0", "fate 1", "fate 2", "fate 3", "fate 4")
	n.atLeast(t, 100, "step 12 0", "step 12 72", "step 13 0", "step 13 73", "step 15 0", "step 15 72")
	n.atLeast(t, 20, "step 12 51", "step 13 51", "step 15 51", "put 75")
	t.Log(n)
}

// TestAllSmallNoises: each list of fates up to a length, at small clusters.
func TestAllSmallNoises(t *testing.T) {
	for _, k := range []struct {
		config api.Config
		most   int
	}{{api.Config{N: 1, K: 1}, 5}, {api.Config{N: 2, K: 1}, 4}, {api.Config{N: 2, K: 2}, 4}, {api.Config{N: 3, K: 1, Delta: 1}, 4}} {
		n := seen{}
		all := [][]int{nil}
		for range k.most {
			for _, noise := range all[len(all)-pow(5, length(all)):] {
				for fate := range 5 {
					all = append(all, append(slices.Clone(noise), fate))
				}
			}
		}
		for _, noise := range all {
			p := newPair(t, k.config, n)
			p.Noise(noise)
			absent(p)
			is(p, "a")
			p.Noise(noise)
			is(p, "bb")
			p.history()
		}
		t.Log(k.config, len(all), n)
	}
}

// length is how long the last list is.
func length(all [][]int) int { return len(all[len(all)-1]) }

func pow(a, b int) int {
	if b == 0 {
		return 1
	}
	return a * pow(a, b-1)
}

func absent(p *pair) {
	p.t.Helper()
	if value, e := p.Get("k"); value != nil || e != api.ErrAbsent {
		p.t.Fatalf("P28.7: Get is %q, %d, behind %q", value, int(e), p.said)
	}
}

// is puts a value and gets it.
func is(p *pair, value string) {
	p.t.Helper()
	if e := p.Put("k", []byte(value)); e != api.OK {
		p.t.Fatalf("P28.7: Put is %d, behind %q", int(e), p.said)
	}
	if got, e := p.Get("k"); string(got) != value || e != api.OK {
		p.t.Fatalf("P28.7: Get is %q, %d, want %q, behind %q", got, int(e), value, p.said)
	}
}

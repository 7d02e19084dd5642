package store_test

import (
	"fmt"
	"math"
	"math/rand/v2"
	"slices"
	"strings"
	"testing"

	"sherd/api"
	"sherd/quorum"
	"sherd/store"
)

// caller is what a drawer's calls go to.
type caller interface {
	Put(key string, value []byte) api.Errno
	Get(key string) ([]byte, api.Errno)
	Noise(choices []int)
	Do(s api.Step) api.Errno
}

// drawer draws calls.
type drawer struct {
	*rand.Rand
	config api.Config
	keys   []string
}

func drawConfig(r *rand.Rand) api.Config {
	n := 1 + r.IntN(7)
	return api.Config{N: n, K: 1 + r.IntN(n), Delta: []int{0, 0, 0, 1, 2, api.MaxDelta}[r.IntN(6)]}
}

func newDrawer(r *rand.Rand, config api.Config) *drawer {
	keys := []string{"k", "j", "a longer one", strings.Repeat("\xff", api.MaxKey), "\x00"}
	return &drawer{Rand: r, config: config, keys: keys[:1+r.IntN(len(keys))]}
}

func (d *drawer) key() string {
	switch d.IntN(25) {
	case 0:
		return ""
	case 1:
		return strings.Repeat("k", api.MaxKey+1)
	}
	return d.keys[d.IntN(len(d.keys))]
}

func (d *drawer) value() []byte {
	if d.IntN(100) == 0 {
		return make([]byte, api.MaxValue+1)
	}
	value := make([]byte, d.IntN(20))
	for i := range value {
		value[i] = byte(d.IntN(256))
	}
	return value
}

// server is one that there is, most often.
func (d *drawer) server() int {
	if d.IntN(20) == 0 {
		return []int{-1, d.config.N, math.MinInt, math.MaxInt}[d.IntN(4)]
	}
	return d.IntN(d.config.N)
}

// noise is of many kinds: of all fates, of one, of numbers that are far off, none.
func (d *drawer) noise() []int {
	choices := make([]int, []int{0, 1, d.IntN(6), d.IntN(40), d.IntN(200)}[d.IntN(5)])
	kind, one := d.IntN(4), d.IntN(5)
	for i := range choices {
		switch kind {
		case 0:
			choices[i] = d.IntN(5)
		case 1:
			choices[i] = one
			if d.IntN(10) == 0 {
				choices[i] = 0
			}
		case 2:
			choices[i] = int(d.Uint64())
		default:
			choices[i] = []int{math.MinInt + d.IntN(10), math.MaxInt - d.IntN(10), d.IntN(30) - 15, 5*d.IntN(2000) - 5000 + 3}[d.IntN(4)]
		}
	}
	return choices
}

func (d *drawer) list() []int {
	l := make([]int, d.IntN(5))
	for i := range l {
		l[i] = d.IntN(60) - 20
	}
	return l
}

// call does a call.
func (d *drawer) call(c caller) {
	switch pick := d.IntN(100); {
	case pick < 30:
		c.Put(d.key(), d.value())
	case pick < 60:
		c.Get(d.key())
	case pick < 68:
		c.Do(api.Step{Kind: api.SCrash, A: d.server(), L: d.list()})
	case pick < 82:
		c.Do(api.Step{Kind: api.SStart, A: d.server()})
	case pick < 87:
		c.Do(api.Step{Kind: api.SCompact, A: d.server()})
	default:
		c.Noise(d.noise())
	}
}

// judge is what must be so of a store, as its callers see it: a map, and which servers are up.
type judge struct {
	t      *testing.T
	s      *store.Store
	config api.Config
	values map[string]string
	down   map[int]bool
	n      seen
}

func newJudge(t *testing.T, config api.Config, n seen) *judge {
	t.Helper()
	return &judge{t: t, s: made(t, config.N, config.K, config.Delta), config: config, values: map[string]string{}, down: map[int]bool{}, n: n}
}

// refusal is why an operation must be refused.
func (j *judge) refusal(key string, value []byte) api.Errno {
	most, _ := quorum.Down(j.config)
	switch {
	case key == "" || len(key) > api.MaxKey:
		return api.ErrKey
	case len(value) > api.MaxValue:
		return api.ErrValue
	case len(j.down) > most:
		return api.ErrDown
	}
	return api.OK
}

// soon looks whether what was begun without noise took no more rounds than it may, and what was refused none.
func (j *judge) soon(name string, quiet bool, most, was int, e api.Errno) {
	j.t.Helper()
	took := j.s.Rounds()
	if e != api.OK && e != api.ErrAbsent {
		if took != was {
			j.t.Fatalf("P28.6: a %s that was refused changes Rounds from %d to %d", name, was, took)
		}
		return
	}
	if took < 2 || quiet && took > most {
		j.t.Fatalf("P28.8: of %+v a %s took %d rounds", j.config, name, took)
	}
	if quiet {
		j.n["quiet "+name]++
		j.n["longest quiet "+name] = max(took, j.n["longest quiet "+name])
	} else {
		j.n["longest noisy "+name] = max(took, j.n["longest noisy "+name])
		j.n["noisy "+name]++
	}
}

func (j *judge) Put(key string, value []byte) api.Errno {
	j.t.Helper()
	quiet, was, began := len(j.s.Left()) == 0, j.s.Rounds(), len(j.s.History())
	e, want := j.s.Put(key, value), j.refusal(key, value)
	if e != want {
		j.t.Fatalf("P28.2: of %+v Put is %d, want %d", j.config, int(e), int(want))
	}
	j.events(began, e)
	j.soon("Put", quiet, 9, was, e)
	if e == api.OK {
		j.values[key] = string(value)
	}
	return e
}

func (j *judge) Get(key string) ([]byte, api.Errno) {
	j.t.Helper()
	quiet, was, began := len(j.s.Left()) == 0, j.s.Rounds(), len(j.s.History())
	value, e := j.s.Get(key)
	want := j.refusal(key, nil)
	told, there := j.values[key]
	if want == api.OK && !there {
		want = api.ErrAbsent
	}
	if e != want || e == api.OK && string(value) != told || e != api.OK && value != nil {
		j.t.Fatalf("P28.7: of %+v Get is %q, %d, want %q, %d", j.config, value, int(e), told, int(want))
	}
	j.events(began, e)
	j.soon("Get", quiet, 12, was, e)
	return value, e
}

// events: two of each operation, none of what is refused.
func (j *judge) events(began int, e api.Errno) {
	j.t.Helper()
	want := 0
	if e == api.OK || e == api.ErrAbsent {
		want = 2
	}
	if came := j.s.History()[began:]; len(came) != want {
		j.t.Fatalf("P28.2: what is %d leaves the events %+v", int(e), came)
	}
}

func (j *judge) Noise(choices []int) { j.s.Noise(choices) }

func (j *judge) Do(s api.Step) api.Errno {
	j.t.Helper()
	want := api.OK
	switch {
	case s.A < 0 || s.A >= j.config.N:
		want = api.ErrNode
	case s.Kind == api.SStart && !j.down[s.A]:
		want = api.ErrUp
	case s.Kind != api.SStart && j.down[s.A]:
		want = api.ErrDown
	}
	e := api.OK
	switch s.Kind {
	case api.SCrash:
		e = j.s.Crash(s.A, s.L)
		if e == api.OK {
			j.down[s.A] = true
		}
	case api.SStart:
		e = j.s.Start(s.A)
		if e == api.OK {
			delete(j.down, s.A)
		}
	case api.SCompact:
		e = j.s.Compact(s.A)
	}
	if e != want || j.s.Up() != j.config.N-len(j.down) {
		j.t.Fatalf("P28.4: of %+v %+v is %d, want %d, and Up %d", j.config, s, int(e), int(want), j.s.Up())
	}
	return e
}

// little is P28.9, and that Bytes is the sum of all that was looked at.
func (j *judge) little() {
	j.t.Helper()
	type spot struct {
		key string
		tag api.Tag
	}
	lengths := map[spot]int{}
	es := j.s.History()
	for i, e := range es {
		if e.Kind == api.Return && e.Put {
			lengths[spot{e.Key, e.Tag}] = len(es[i-1].Value)
		}
	}
	total := 0
	for i := range j.config.N {
		table, _ := j.s.Inside().Table(i)
		for _, h := range table {
			finalized := 0
			for _, x := range h.Entries {
				length, there := lengths[spot{h.Key, x.Tag}]
				if want := (length + 4 + j.config.K - 1) / j.config.K; !there || x.Has && len(x.Data) != want {
					j.t.Fatalf("P28.9: of %+v server %d has %+v of %q, want %d bytes", j.config, i, x, h.Key, want)
				}
				if x.Has && x.Fin {
					finalized++
				}
				total += len(x.Data)
			}
			j.n["most finalized"] = max(finalized, j.n["most finalized"])
			if finalized > j.config.Delta+1 {
				j.t.Fatalf("P28.9: of %+v server %d has %d fragments of %q", j.config, i, finalized, h.Key)
			}
		}
	}
	if j.s.Bytes() != total {
		j.t.Fatalf("P28.6: Bytes is %d, want %d", j.s.Bytes(), total)
	}
}

// TestIsAMap: long lists of calls of every kind, beside a map.
func TestIsAMap(t *testing.T) {
	r := rand.New(rand.NewPCG(28, 2))
	n := seen{}
	for range 1500 {
		j := newJudge(t, drawConfig(r), n)
		d := newDrawer(r, j.config)
		for range 1 + r.IntN(5) {
			for range r.IntN(25) {
				d.call(j)
			}
			j.little()
		}
	}
	n.atLeast(t, 1000, "quiet Put", "quiet Get", "noisy Put", "noisy Get")
	n.atLeast(t, 7, "longest noisy Put", "longest noisy Get")
	n.atLeast(t, 3, "most finalized")
	t.Log(n)
}

// TestRoundAndRound: between all operations other servers crash, as many as may be down, so that each operation has another quorum.
func TestRoundAndRound(t *testing.T) {
	r := rand.New(rand.NewPCG(28, 3))
	n := seen{}
	for range 300 {
		j := newJudge(t, drawConfig(r), n)
		d := newDrawer(r, j.config)
		most, _ := quorum.Down(j.config)
		for i := range 12 {
			for _, server := range r.Perm(j.config.N) {
				if j.down[server] {
					j.Do(api.Step{Kind: api.SStart, A: server})
				}
			}
			for _, server := range r.Perm(j.config.N)[:most] {
				j.Do(api.Step{Kind: api.SCrash, A: server, L: d.list()})
			}
			if i%3 == 0 {
				j.Noise(d.noise())
			}
			key := d.keys[d.IntN(len(d.keys))]
			if i%2 == 0 {
				j.Put(key, []byte(fmt.Sprint("value ", i)))
			} else {
				j.Get(key)
			}
		}
		for _, key := range d.keys {
			j.Get(key)
		}
		j.little()
	}
	t.Log(n)
}

// TestLate: what is held back for long comes late, behind other Puts of its key, and changes nothing.
func TestLate(t *testing.T) {
	n := seen{}
	for held := range 60 {
		for _, config := range []api.Config{{N: 1, K: 1}, {N: 3, K: 1}, {N: 4, K: 2}, {N: 3, K: 3}} {
			j := newJudge(t, config, n)
			noise := slices.Repeat([]int{0}, held)
			j.Noise(append(noise, slices.Repeat([]int{4, 4, 4, 2}, 40)...))
			j.Put("k", []byte("first"))
			j.Put("k", []byte("second"))
			j.Get("k")
			j.Noise(nil)
			j.Put("k", []byte("third"))
			j.Get("k")
			j.Get("k")
			j.little()
		}
	}
	t.Log(n)
}

// TestTheWorst: with a long noise of one fate alone each operation ends all the same.
func TestTheWorst(t *testing.T) {
	n := seen{}
	for fate := range 5 {
		for _, config := range []api.Config{{N: 1, K: 1}, {N: 3, K: 2}, {N: 5, K: 1}} {
			j := newJudge(t, config, n)
			for i := range 4 {
				j.Noise(slices.Repeat([]int{fate}, 600))
				j.Put("k", []byte(fmt.Sprint("value ", i)))
				j.Noise(slices.Repeat([]int{fate}, 600))
				j.Get("k")
				j.Get("j")
			}
			j.Noise(nil)
			j.Get("k")
			j.little()
		}
	}
	n.atLeast(t, 600, "longest noisy Put", "longest noisy Get")
	t.Log(n)
}

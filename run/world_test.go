package run_test

import (
	"bytes"
	"fmt"
	"math"
	"math/big"
	"math/rand/v2"
	"slices"
	"strings"
	"testing"

	"sherd/api"
	"sherd/cluster"
	"sherd/linear"
	"sherd/order"
	"sherd/run"
)

// world draws a script, and does it step by step as the chapters tell it: so it has a story of its own.
type world struct {
	*rand.Rand
	t       *testing.T
	c       *cluster.Cluster
	config  api.Config
	clients int
	keys    []string
	steps   []api.Step
	told    []run.Told
	spoilt  []bool // by the numbers in flight
	rough   bool   // what is spoilt may be spoilt again: then nothing is promised of the whole
	stops   int    // how often clients stop for ever
	calm    bool   // little goes wrong, so that much comes to its end, but datagrams come late
	n       seen
}

// seen is how much of each kind the scripts brought.
type seen map[string]int

func (n seen) atLeast(t *testing.T, least int, names ...string) {
	t.Helper()
	for _, name := range names {
		if n[name] < least {
			t.Errorf("the test says little: %q came %d times: %v", name, n[name], n)
		}
	}
}

func drawConfig(r *rand.Rand) api.Config {
	n := 1 + r.IntN(5)
	return api.Config{N: n, K: 1 + r.IntN(n), Delta: []int{0, 0, 0, 1, 2, api.MaxDelta}[r.IntN(6)]}
}

func newWorld(t *testing.T, r *rand.Rand, config api.Config, clients int, n seen) *world {
	t.Helper()
	c, e := cluster.New(config, clients)
	if e != api.OK {
		t.Fatalf("New(%v, %d): %d", config, clients, int(e))
	}
	return &world{Rand: r, t: t, c: c, config: config, clients: clients, keys: []string{"k", "j\n", "\x00\xff\""}[:1+r.IntN(3)], n: n}
}

func mod(a, m int) int {
	return int(new(big.Int).Mod(big.NewInt(int64(a)), big.NewInt(int64(m))).Int64())
}

// spoilsAgain tells whether a step spoils a datagram that is spoilt.
func (w *world) spoilsAgain(s api.Step) bool {
	return (s.Kind == api.SBurst || s.Kind == api.SCut) && len(w.spoilt) > 0 && w.spoilt[mod(s.A, len(w.spoilt))]
}

// act has the cluster do a step, and follows which datagrams are spoilt.
func (w *world) act(s api.Step) ([]api.Event, api.Errno) {
	before, at := w.c.Flight(), 0
	if len(before) > 0 {
		at = mod(s.A, len(before))
	}
	es, e := w.c.Do(s)
	after := w.c.Flight()
	switch {
	case len(before) == 0:
	case s.Kind == api.SDeliver || s.Kind == api.SDrop:
		w.spoilt = slices.Delete(w.spoilt, at, at+1)
	case s.Kind == api.SDouble:
		w.spoilt = append(w.spoilt, w.spoilt[at])
	case (s.Kind == api.SBurst || s.Kind == api.SCut) && !bytes.Equal(before[at].Data, after[at].Data):
		w.spoilt[at] = true
		w.n["spoilt"]++
	}
	for len(w.spoilt) < len(after) {
		w.spoilt = append(w.spoilt, false)
	}
	return es, e
}

// used has of each kind what its line has of a step: A, B, the key, the value, the list.
var used = [...]string{1: "akv", 2: "ak", 3: "a", 4: "a", 5: "a", 6: "a", 7: "a", 8: "a", 9: "abl", 10: "ab", 11: "a", 12: "al", 13: "a", 14: "abl", 15: "a", 16: "bl"}

// mayBe is chapter 24's Check.
func mayBe(s api.Step) api.Errno {
	if s.Kind < 1 || s.Kind > 16 {
		return 32
	}
	has := used[s.Kind]
	for sign, is := range map[string]bool{"a": s.A != 0, "b": s.B != 0, "k": s.Key != "", "v": len(s.Value) > 0, "l": len(s.L) > 0} {
		if is && !strings.Contains(has, sign) {
			return 1
		}
	}
	if s.Kind == 9 && (len(s.L) != 1 || s.L[0] < 0 || s.L[0] > math.MaxUint32) {
		return 1
	}
	return 0
}

// step is one more of the script, but one that would spoil what is spoilt is left out.
func (w *world) step(s api.Step) {
	if !w.rough && w.spoilsAgain(s) {
		return
	}
	w.steps = append(w.steps, s)
	var told run.Told
	switch told.Err = mayBe(s); {
	case told.Err != 0:
	case s.Kind != 16:
		told.Events, told.Err = w.act(s)
	case s.B < 0 || s.B > 4096:
		told.Err = 1
	default:
		for range s.B {
			told.Events = append(told.Events, w.round(s.L)...)
		}
	}
	w.told = append(w.told, told)
	w.n[fmt.Sprint("step ", max(0, min(s.Kind, 17)), " ", min(int(told.Err), 1))]++
	for _, e := range told.Events {
		w.n[fmt.Sprint("event ", e.Kind, e.Put, int(e.Status))]++
	}
}

// round is chapter 23's, told step by step.
func (w *world) round(l []int) []api.Event {
	var left []int // numbers in flight
	for at, p := range w.c.Flight() {
		client, server := p.From.Id, p.To.Id
		if p.From.Kind == api.NServer {
			client, server = server, client
		}
		if w.c.Live(client) && w.c.Up(server) {
			left = append(left, at)
		}
	}
	var came []api.Event
	for i := 0; len(left) > 0; i++ {
		next := 0
		if i < len(l) {
			next = mod(l[i], len(left))
		}
		at := left[next]
		es, _ := w.act(api.Step{Kind: api.SDeliver, A: at})
		came = append(came, es...)
		left = slices.Delete(left, next, next+1)
		for j := range left {
			if left[j] > at {
				left[j]--
			}
		}
	}
	for id := range w.clients {
		w.act(api.Step{Kind: api.STick, A: id + 1})
	}
	return came
}

// story is what is to be told of the script so far.
func (w *world) story() run.Story {
	s := run.Story{Told: w.told, Flight: len(w.c.Flight()), ByTags: true}
	for i := range w.config.N {
		s.Up = append(s.Up, w.c.Up(i))
	}
	calls := w.calls()
	var decides bool
	for _, key := range w.sortedKeys(calls) {
		var of []api.Call
		for _, c := range calls {
			if c.Key == key {
				of = append(of, c)
			}
		}
		if _, ok, e := linear.One(of); !decides && (!ok || e != api.OK) {
			decides, s.Heavy = true, e == api.ErrHeavy
		}
		o, e := order.ByTags(of)
		s.ByTags = s.ByTags && e == api.OK && order.Check(of, o) == api.OK
	}
	s.Linear = !decides
	return s
}

func (w *world) sortedKeys(calls []api.Call) []string {
	var keys []string
	for _, c := range calls {
		keys = append(keys, c.Key)
	}
	slices.Sort(keys)
	return slices.Compact(keys)
}

// calls is the operations of all that was told, by chapter 19's words.
func (w *world) calls() []api.Call {
	var calls []api.Call
	at := 0
	under := map[int]int{} // by client: its last call's place
	for _, told := range w.told {
		for _, e := range told.Events {
			switch e.Kind {
			case api.Invoke:
				under[e.Client] = len(calls)
				calls = append(calls, api.Call{Client: e.Client, Op: e.Op, Put: e.Put, Key: e.Key, Value: e.Value, From: at, To: -1, Open: e.Put})
			case api.Return:
				c := &calls[under[e.Client]]
				c.Status, c.Tag = e.Status, e.Tag
				if c.Open = c.Put && e.Status != api.OK; !c.Open {
					c.To = at
				}
				if !c.Put {
					c.Value = e.Value
				}
			case api.Cancel:
				c := &calls[under[e.Client]]
				c.Status, c.Tag = api.ErrGone, e.Tag
			}
			at++
		}
	}
	return calls
}

type weight struct{ weight, kind int }

// weights is how often each kind of step comes.
func (w *world) weights() []weight {
	if w.calm {
		return []weight{
			{20, api.SPut}, {30, api.SGet}, {2, api.SCancel}, {6, api.STick}, {w.stops, api.SStop},
			{200, api.SDeliver}, {1, api.SDrop}, {12, api.SDouble}, {1, api.SBurst}, {1, api.SLose},
			{1, api.SCrash}, {4, api.SStart}, {1, api.SCompact}, {1, api.SRound},
		}
	}
	return []weight{
		{14, api.SPut}, {10, api.SGet}, {2, api.SCancel}, {8, api.STick}, {w.stops, api.SStop},
		{100, api.SDeliver}, {6, api.SDrop}, {5, api.SDouble}, {3, api.SBurst}, {2, api.SCut}, {2, api.SLose},
		{3, api.SCrash}, {9, api.SStart}, {3, api.SDie}, {2, api.SCompact}, {5, api.SRound},
	}
}

// next draws a step.
func (w *world) next() api.Step {
	s := api.Step{}
	kinds := w.weights()
	all := 0
	for _, k := range kinds {
		all += k.weight
	}
	pick := w.IntN(all)
	for _, k := range kinds {
		if pick < k.weight {
			s.Kind = k.kind
			break
		}
		pick -= k.weight
	}
	switch s.Kind {
	case api.SPut, api.SGet, api.SCancel, api.STick, api.SStop:
		s.A = 1 + w.IntN(max(w.clients, 1))
	case api.SCrash, api.SStart, api.SDie, api.SCompact:
		s.A = w.IntN(w.config.N)
	case api.SRound:
	default:
		s.A = w.IntN(1<<20) - 1<<19
		if w.calm && w.IntN(3) > 0 {
			s.A = -1 - w.IntN(1+w.config.N) // one of the last, so that older ones stay in flight
		}
	}
	switch s.Kind {
	case api.SPut:
		s.Key, s.Value = w.keys[w.IntN(len(w.keys))], []byte(fmt.Sprint("value\n", w.IntN(1000)))[:w.IntN(8)]
	case api.SGet:
		s.Key = w.keys[w.IntN(len(w.keys))]
	case api.SBurst:
		s.B, s.L = w.IntN(300), []int{[]int{1, 3, math.MaxUint32, 1<<31 | 1, int(w.Uint32()), 0}[w.IntN(6)]}
	case api.SCut:
		s.B = w.IntN(40)
	case api.SCrash:
		s.L = w.list()
	case api.SDie, api.SRound:
		s.B, s.L = w.IntN(9), w.list()
	}
	return s
}

func (w *world) list() []int {
	l := make([]int, w.IntN(5))
	for i := range l {
		l[i] = w.IntN(60) - 20
	}
	return l
}

// odd is a step with something wrong, or nothing, whatever it be.
func (w *world) odd() api.Step {
	number := func() int {
		return []int{0, 1, -1, 2, w.IntN(8), -w.IntN(8), 255, 256, math.MaxInt, math.MinInt, int(w.Uint64())}[w.IntN(11)]
	}
	s := w.next()
	switch w.IntN(7) {
	case 0:
		s.Kind = []int{0, 17, -1, number()}[w.IntN(4)]
	case 1:
		s.A = number()
	case 2:
		if s.B = number(); s.Kind == api.SRound && s.B > 0 {
			s.B += api.MaxSteps // so many rounds would take long
		}
	case 3:
		s.Key = []string{"", "k", "other", strings.Repeat("k", 65)}[w.IntN(4)]
	case 4:
		s.Value = []byte("odd")
	case 5:
		s.L = append(s.L, number())
	case 6:
		s = api.Step{Kind: 1 + w.IntN(16), A: number(), B: -1, L: []int{number(), number()}}
	}
	return s
}

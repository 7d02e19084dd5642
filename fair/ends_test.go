package fair_test

import (
	"fmt"
	"maps"
	"math/rand/v2"
	"slices"
	"strings"
	"testing"

	"sherd/api"
	"sherd/cluster"
	"sherd/fair"
	"sherd/frame"
	"sherd/quorum"
)

// under is what a live client has under way, and within how many rounds it must end.
type under struct {
	op    int64
	put   bool
	bound int
}

// underway is what all live clients have under way, by the client.
func underway(c *cluster.Cluster) map[int]under {
	puts := map[string]int{}
	for _, e := range c.History() {
		if e.Kind == api.Invoke && e.Put {
			puts[e.Key]++
		}
	}
	all := map[int]under{}
	_, clients := c.Config()
	for id := 1; id <= clients; id++ {
		op, put, key, _, _, e := c.Now(id)
		if e != api.OK {
			continue
		}
		all[id] = under{op, put, 6 * (puts[key] + 1)}
		if put {
			all[id] = under{op, put, 9}
		}
	}
	return all
}

// ends looks whether all ends in time: round does the next one. How many rounds the longest took.
func ends(t *testing.T, c *cluster.Cluster, n seen, round func() []api.Event) int {
	t.Helper()
	begin := c.State()
	left := underway(c)
	done := 0
	for len(left) > 0 {
		es := round()
		done++
		for _, e := range es {
			u, is := left[e.Client]
			right := e.Status == api.OK || u.put && e.Status == api.ErrFull || !u.put && e.Status == api.ErrAbsent
			if !is || e.Kind != api.Return || e.Op != u.op || e.Put != u.put || !right {
				t.Fatalf("P7: round %d brings %+v; began with\n%s", done, e, begin)
			}
			delete(left, e.Client)
			name := fmt.Sprint("longest ", u.put, " of ", u.bound)
			n[name] = max(n[name], done)
			n[fmt.Sprint("ended ", u.put)]++
		}
		for id, u := range left {
			if done >= u.bound {
				t.Fatalf("P7: behind %d rounds client %d has %+v under way still; began with\n%s", done, id, u, begin)
			}
		}
	}
	return done
}

// TestEnds: P7, behind drawn steps of every kind, in drawn orders.
func TestEnds(t *testing.T) {
	r := rand.New(rand.NewPCG(23, 3))
	n := seen{}
	for run := range 1000 {
		config := drawConfig(r)
		if run%2 == 0 {
			config.Delta = 0 // so that Gets come too late
		}
		w := newWorld(t, r, config, 1+r.IntN(6+run%2*2), n)
		for range 1 + r.IntN(3) {
			w.play(r.IntN(200))
			w.settle()
			w.ends()
		}
	}
	for kind := api.SPut; kind <= api.SCompact; kind++ {
		n.atLeast(t, 20, fmt.Sprint("step ", kind))
	}
	n.atLeast(t, 500, "ended true", "ended false", "as many down as may be")
	n.atLeast(t, 100, "read anew")
	t.Log(n)
}

// ends looks at a world that has settled.
func (w *world) ends() {
	w.t.Helper()
	most, _ := quorum.Down(w.config)
	if w.down() > most || strings.Contains(w.c.State(), " stop ") {
		w.t.Fatalf("the test is wrong: %d are down, or some are armed:\n%s", w.down(), w.c.State())
	}
	if most > 0 && w.down() == most {
		w.n["as many down as may be"]++
	}
	twin := w.c.Copy()
	var orders [][]int
	rounds := ends(w.t, w.c, w.n, func() []api.Event {
		orders = append(orders, w.order())
		was := w.reads()
		es := w.round(orders[len(orders)-1])
		for id, t := range w.reads() {
			if old, is := was[id]; is && old != t {
				w.n["read anew"]++
			}
		}
		return es
	})
	until(w.t, twin, 200, rounds, true, orders...)
}

// reads is the tags that Gets are reading, by the client.
func (w *world) reads() map[int]api.Tag {
	tags := map[int]api.Tag{}
	for id := 1; id <= w.clients; id++ {
		if _, put, _, t, phase, e := w.c.Now(id); e == api.OK && !put && phase == 2 {
			tags[id] = t
		}
	}
	return tags
}

// permutations are all orders of so many.
func permutations(n int) [][]int {
	all := [][]int{nil}
	for left := n; left > 0; left-- {
		var longer [][]int
		for _, order := range all {
			for number := range left {
				longer = append(longer, append(slices.Clone(order), number))
			}
		}
		all = longer
	}
	return all
}

// TestAllOrders: P7 of few operations in small clusters, in whatever orders the rounds may be; where a round has too many for that, in drawn ones.
func TestAllOrders(t *testing.T) {
	r := rand.New(rand.NewPCG(23, 4))
	n := seen{}
	for _, k := range []struct {
		config api.Config
		steps  []api.Step
	}{
		{api.Config{N: 1, K: 1}, []api.Step{put(1, "k", "a"), get(2, "k")}},
		{api.Config{N: 1, K: 1}, []api.Step{put(1, "k", "a"), put(2, "k", "b")}},
		{api.Config{N: 2, K: 2}, []api.Step{put(1, "k", "a")}},
		{api.Config{N: 3, K: 1}, []api.Step{get(1, "k")}},
	} {
		c := made(t, k.config, 4)
		do(t, c, k.steps...)
		allOrders(t, r, c, n)
		empty(t, c)
		allOrders(t, r, c, n)
	}
	allOrders(t, r, chase(t), n)
	c := chase(t)
	empty(t, c)
	allOrders(t, r, c, n)
	t.Log(n)
}

// empty drops all that is in flight.
func empty(t *testing.T, c *cluster.Cluster) {
	t.Helper()
	for len(c.Flight()) > 0 {
		do(t, c, drop(0))
	}
}

// chase is a Get that reads a tag while two Puts are about to finalize higher ones, and one is about to choose.
func chase(t *testing.T) *cluster.Cluster {
	t.Helper()
	c := made(t, api.Config{N: 1, K: 1}, 4)
	do(t, c, put(1, "k", "a"))
	until(t, c, 9, 6, true)
	empty(t, c)
	do(t, c, put(1, "k", "b"), put(2, "k", "c"), put(3, "k", "d"), get(4, "k"))
	for range 4 {
		do(t, c, deliver(0))
	}
	flightIs(t, c, "s0Toldc1 s0Toldc2 s0Toldc3 s0Toldc4")
	do(t, c, drop(2), deliver(2), deliver(0), deliver(0), deliver(1), deliver(1), deliver(1), deliver(1))
	flightIs(t, c, "c4Reads0 c1Fins0 c2Fins0")
	return c
}

// allOrders goes on from a cluster in all ways at once.
func allOrders(t *testing.T, r *rand.Rand, c *cluster.Cluster, n seen) {
	t.Helper()
	bounds := underway(c)
	level := map[string]*cluster.Cluster{c.State(): c}
	for done := 1; len(level) > 0; done++ {
		next := map[string]*cluster.Cluster{}
		for _, state := range slices.Sorted(maps.Keys(level)) {
			for _, order := range ordersOf(r, level[state], n) {
				d := level[state].Copy()
				round(t, d, order...)
				left := underway(d)
				for id := range left {
					if done >= bounds[id].bound {
						t.Fatalf("P7: behind %d rounds client %d has %+v under way still:\n%s", done, id, left[id], d.State())
					}
				}
				if len(left) > 0 {
					next[d.State()] = d
				}
				n["rounds"]++
			}
		}
		level = next
		n["states"] += len(level)
		n["longest"] = max(n["longest"], done)
	}
}

// ordersOf are all orders of a round that begins now, or some, if they are too many.
func ordersOf(r *rand.Rand, c *cluster.Cluster, n seen) [][]int {
	m := 0
	for _, is := range fated(c) {
		if is {
			m++
		}
	}
	if m <= 5 {
		n["all"]++
		return permutations(m)
	}
	n["some"]++
	var some [][]int
	for range 60 {
		some = append(some, lehmer(r.Perm(m)))
	}
	return some
}

// TestAllCrash: example 9 of the whole: behind a Put that is OK all servers crash, whatever their disks keep.
func TestAllCrash(t *testing.T) {
	for choice := -3; choice < 30; choice++ {
		c := made(t, api.Config{N: 3, K: 2}, 2)
		do(t, c, put(1, "k", "value"))
		until(t, c, 9, 6, true)
		for i := range 3 {
			do(t, c, crash(i, choice, choice/2, -choice), start(i))
		}
		do(t, c, get(2, "k"))
		until(t, c, 4, 4, true, []int{choice}, []int{choice, choice, choice})
		es := c.History()
		if last := es[len(es)-1]; last.Kind != api.Return || last.Status != api.OK || string(last.Value) != "value" {
			t.Errorf("P7: the Get is %+v", last)
		}
	}
}

// TestEndsMany: P7 of great clusters in which as many are down as may be.
func TestEndsMany(t *testing.T) {
	r := rand.New(rand.NewPCG(23, 7))
	for _, config := range []api.Config{{N: 255, K: 1}, {N: 255, K: 128}, {N: 255, K: 254}, {N: 255, K: 255}, {N: 100, K: 33, Delta: 1}} {
		w := newWorld(t, r, config, 3, seen{})
		do(t, w.c, put(1, "k", "old"))
		until(t, w.c, 9, 6, true)
		empty(t, w.c)
		do(t, w.c, put(1, "k", "one"), put(2, "k", "two"), get(3, "k"))
		most, _ := quorum.Down(config)
		for _, i := range r.Perm(config.N)[:most] {
			do(t, w.c, crash(i))
		}
		rounds := ends(t, w.c, w.n, func() []api.Event { return round(t, w.c, w.order()...) })
		if w.down() != most || rounds < 6 {
			t.Errorf("P7: of %v %d are down, and it took %d rounds", config, w.down(), rounds)
		}
	}
}

// TestTooManyDown: with one more down than may be nothing ends, however long it goes on, till one is up again.
func TestTooManyDown(t *testing.T) {
	for _, config := range []api.Config{{N: 1, K: 1}, {N: 3, K: 1}, {N: 4, K: 1}, {N: 5, K: 3}, {N: 5, K: 2}} {
		most, _ := quorum.Down(config)
		c := made(t, config, 2)
		do(t, c, put(1, "k", "v"), get(2, "k"))
		for i := range most + 1 {
			do(t, c, crash(i))
		}
		until(t, c, 20, 20, false)
		do(t, c, start(most))
		left := underway(c)
		n, ok, e := fair.Until(c, max(left[1].bound, left[2].bound))
		if !ok || e != api.OK || n > 7 {
			t.Errorf("P7: with %d of %v down it took %d rounds, %v, %d", most, config, n, ok, int(e))
		}
	}
}

// TestFull: where counters end a Put is ErrFull, and its round's event tells that. No script comes so far by itself: a late answer is spoilt until it is another.
func TestFull(t *testing.T) {
	c := made(t, api.Config{N: 1, K: 1}, 1)
	do(t, c, get(1, strings.Repeat("a long key ", 5)), deliver(0), api.Step{Kind: api.SCancel, A: 1}, put(1, "k", "v"))
	flightIs(t, c, "s0Toldc1 c1Asks0")
	from := c.Flight()[0].Data
	to, e := frame.Encode(api.Message{Kind: api.Told, Client: 1, Op: 2, Key: "k", Top: api.Tag{Count: api.MaxCount, Client: 9}})
	if e != api.OK || len(to) > len(from) {
		t.Fatal("the frame is too long", e)
	}
	do(t, c, api.Step{Kind: api.SCut, B: len(to)})
	for i := range to {
		do(t, c, api.Step{Kind: api.SBurst, B: 8 * i, L: []int{int(from[i] ^ to[i])}})
	}
	flightIs(t, c, "s0Toldc1 c1Asks0")
	until(t, c.Copy(), 9, 1, true)
	eventsAre(t, round(t, c), api.Event{Kind: api.Return, Client: 1, Op: 2, Put: true, Key: "k", Status: api.ErrFull})
}

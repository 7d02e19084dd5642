package fair_test

import (
	"fmt"
	"math"
	"math/big"
	"math/rand/v2"
	"slices"
	"testing"

	"sherd/api"
	"sherd/cluster"
	"sherd/fair"
	"sherd/frame"
)

// fated is which datagrams in flight are a round's that begins now, by their numbers.
func fated(c *cluster.Cluster) []bool {
	var round []bool
	for _, p := range c.Flight() {
		request := p.From.Kind == api.NClient && p.To.Kind == api.NServer && c.Live(p.From.Id) && c.Up(p.To.Id)
		answer := p.From.Kind == api.NServer && p.To.Kind == api.NClient && c.Up(p.From.Id) && c.Live(p.To.Id)
		round = append(round, request || answer)
	}
	return round
}

// pick is the number in flight of the one that a number of an order names.
func pick(round []bool, number int) int {
	var left []int
	for at, is := range round {
		if is {
			left = append(left, at)
		}
	}
	m := new(big.Int).Mod(big.NewInt(int64(number)), big.NewInt(int64(len(left))))
	return left[m.Int64()]
}

// byWords does a round as the chapter tells it, step by step.
func byWords(c *cluster.Cluster, order []int, do func(s api.Step)) {
	round := fated(c)
	for i := 0; slices.Contains(round, true); i++ {
		number := 0
		if i < len(order) {
			number = order[i]
		}
		at := pick(round, number)
		do(api.Step{Kind: api.SDeliver, A: at})
		round = slices.Delete(round, at, at+1)
		for len(round) < len(c.Flight()) {
			round = append(round, false) // sent meanwhile
		}
	}
	_, clients := c.Config()
	for id := range clients {
		if c.Live(id + 1) {
			do(api.Step{Kind: api.STick, A: id + 1})
		}
	}
}

// order draws one for the round that would begin now.
func (w *world) order() []int {
	n := 0
	for _, is := range fated(w.c) {
		if is {
			n++
		}
	}
	var order []int
	switch w.IntN(7) {
	case 0:
		return nil
	case 1:
		return slices.Repeat([]int{-1}, n)
	case 2:
		for range w.IntN(n + 3) {
			order = append(order, w.IntN(n+3)-n/2)
		}
	case 3:
		for range n {
			order = append(order, []int{math.MaxInt, math.MinInt, int(w.Uint64()), -1, 1}[w.IntN(5)])
		}
	case 4:
		return lehmer(w.Perm(n))
	default:
		return w.taste()
	}
	return order
}

// taste is an order in which some kinds of messages, some clients' and some servers' come ahead of others.
func (w *world) taste() []int {
	kinds, clients, servers := w.Perm(9), w.Perm(w.clients+1), w.Perm(w.config.N)
	first := w.IntN(3)
	var weights []int
	round := fated(w.c)
	for at, p := range w.c.Flight() {
		if !round[at] {
			continue
		}
		client, server := p.From.Id, p.To.Id
		if p.From.Kind == api.NServer {
			client, server = server, client
		}
		m, _ := frame.Decode(p.Data)
		three := []int{kinds[m.Kind], clients[client], servers[server]}
		weights = append(weights, three[first]<<16|three[(first+1)%3]<<8|three[(first+2)%3])
	}
	places := make([]int, len(weights))
	for i := range places {
		places[i] = i
	}
	slices.SortStableFunc(places, func(a, b int) int { return weights[a] - weights[b] })
	return lehmer(places)
}

// lehmer is the order by which those at the places come one after the other.
func lehmer(places []int) []int {
	var order []int
	for i, place := range places {
		ahead := 0
		for _, other := range places[i+1:] {
			if other < place {
				ahead++
			}
		}
		order = append(order, ahead)
	}
	return order
}

// round has a twin do fair.Round, and holds it against the words.
func (w *world) round(order []int) []api.Event {
	w.t.Helper()
	twin, began := w.c.Copy(), len(w.c.History())
	es, e := fair.Round(twin, order)
	down := w.down()
	byWords(w.c, order, w.step)
	want := w.c.History()[began:]
	if e != api.OK || !sameEvents(es, want) {
		w.t.Fatalf("P23.1: Round by %v is %+v, %d, want %+v", order, es, int(e), want)
	}
	if got, want := twin.State(), w.c.State(); got != want || !sameEvents(twin.History(), w.c.History()) {
		w.t.Fatalf("P23.1: Round by %v comes to\n%s, want\n%s", order, got, want)
	}
	w.n["rounds"]++
	w.n[fmt.Sprint("rounds with events ", min(len(es), 2))]++
	if w.down() > down {
		w.n["rounds in which a server died"]++
	}
	return es
}

// busy tells whether a live client has something under way, by the lines of the history alone.
func (w *world) busy() bool {
	open := map[int]bool{}
	for _, e := range w.c.History() {
		open[e.Client] = e.Kind == api.Invoke
	}
	for id, is := range open {
		if is && w.c.Live(id) {
			return true
		}
	}
	return false
}

// until has a twin do fair.Until, and holds it against rounds one by one.
func (w *world) until(most int, orders ...[]int) {
	w.t.Helper()
	twin := w.c.Copy()
	n, ok, e := fair.Until(twin, most, orders...)
	done := 0
	for ; done < most && w.busy(); done++ {
		var order []int
		if done < len(orders) {
			order = orders[done]
		}
		w.round(order)
	}
	if n != done || ok == w.busy() || e != api.OK {
		w.t.Fatalf("P23.2: Until(%d, %v) is %d, %v, %d, want %d, %v", most, orders, n, ok, int(e), done, !w.busy())
	}
	if got, want := twin.State(), w.c.State(); got != want || !sameEvents(twin.History(), w.c.History()) {
		w.t.Fatalf("P23.2: Until(%d, %v) comes to\n%s, want\n%s", most, orders, got, want)
	}
	w.n[fmt.Sprint("until ", ok)]++
}

// TestAsTold: rounds in long scripts of all that may go wrong, each beside the chapter's words.
func TestAsTold(t *testing.T) {
	r := rand.New(rand.NewPCG(23, 1))
	n := seen{}
	for run := range 250 {
		w := newWorld(t, r, drawConfig(r), 1+r.IntN(5), n)
		w.rough = run%3 == 0
		for range 1 + r.IntN(5) {
			w.play(r.IntN(150))
			w.round(w.order())
			w.round(w.order())
		}
	}
	for kind := api.SPut; kind <= api.SCompact; kind++ {
		n.atLeast(t, 20, fmt.Sprint("step ", kind))
	}
	n.atLeast(t, 100, "rounds with events 0", "rounds with events 1")
	n.atLeast(t, 20, "rounds with events 2", "rounds in which a server died", "event 2 true 0", "event 2 false 0", "event 2 false 76")
	t.Log(n)
}

// TestUntilAsTold: Until behind scripts, from which it comes to an end or doesn't, beside rounds one by one.
func TestUntilAsTold(t *testing.T) {
	r := rand.New(rand.NewPCG(23, 2))
	n := seen{}
	for range 300 {
		w := newWorld(t, r, drawConfig(r), 1+r.IntN(5), n)
		w.play(r.IntN(200))
		var orders [][]int
		for range r.IntN(6) {
			orders = append(orders, w.order())
		}
		w.until(r.IntN(12), orders...)
	}
	n.atLeast(t, 50, "until true", "until false")
	t.Log(n)
}

package fair_test

import (
	"bytes"
	"fmt"
	"math"
	"slices"
	"strings"
	"testing"

	"sherd/api"
	"sherd/cluster"
	"sherd/fair"
	"sherd/frame"
)

func put(a int, key, value string) api.Step {
	return api.Step{Kind: api.SPut, A: a, Key: key, Value: []byte(value)}
}

func get(a int, key string) api.Step { return api.Step{Kind: api.SGet, A: a, Key: key} }

func stop(a int) api.Step { return api.Step{Kind: api.SStop, A: a} }

func deliver(a int) api.Step { return api.Step{Kind: api.SDeliver, A: a} }

func drop(a int) api.Step { return api.Step{Kind: api.SDrop, A: a} }

func lose(a int) api.Step { return api.Step{Kind: api.SLose, A: a} }

func crash(a int, l ...int) api.Step { return api.Step{Kind: api.SCrash, A: a, L: l} }

func start(a int) api.Step { return api.Step{Kind: api.SStart, A: a} }

func die(a, b int, l ...int) api.Step { return api.Step{Kind: api.SDie, A: a, B: b, L: l} }

func made(t *testing.T, config api.Config, clients int) *cluster.Cluster {
	t.Helper()
	c, e := cluster.New(config, clients)
	if e != api.OK || c == nil {
		t.Fatalf("New(%v, %d): %d", config, clients, int(e))
	}
	return c
}

// do does steps that are all taken.
func do(t *testing.T, c *cluster.Cluster, steps ...api.Step) {
	t.Helper()
	for i, s := range steps {
		if _, e := c.Do(s); e != api.OK {
			t.Fatalf("step %d, %+v: %d", i, s, int(e))
		}
	}
}

// round is a round that is taken, as all are: its events.
func round(t *testing.T, c *cluster.Cluster, order ...int) []api.Event {
	t.Helper()
	es, e := fair.Round(c, order)
	if e != api.OK {
		t.Fatalf("P23.1: Round by %v is %d", order, int(e))
	}
	return es
}

// until looks at what Until answers.
func until(t *testing.T, c *cluster.Cluster, most int, rounds int, idle bool, orders ...[]int) {
	t.Helper()
	if n, ok, e := fair.Until(c, most, orders...); n != rounds || ok != idle || e != api.OK {
		t.Errorf("P23.2: Until(%d, %v) is %d, %v, %d, want %d, %v, 0", most, orders, n, ok, int(e), rounds, idle)
	}
}

func sameEvents(a, b []api.Event) bool {
	return slices.EqualFunc(a, b, func(x, y api.Event) bool {
		return x.Kind == y.Kind && x.Client == y.Client && x.Op == y.Op && x.Put == y.Put && x.Key == y.Key && bytes.Equal(x.Value, y.Value) && x.Status == y.Status && x.Tag == y.Tag
	})
}

func eventsAre(t *testing.T, got []api.Event, want ...api.Event) {
	t.Helper()
	if !sameEvents(got, want) {
		t.Errorf("P23.1: the events are %+v, want %+v", got, want)
	}
}

// flight is what is in flight, each with its ends and its message's kind; - where that can't be read.
func flight(c *cluster.Cluster) string {
	var all []string
	for _, p := range c.Flight() {
		kind := "-"
		if m, e := frame.Decode(p.Data); e == api.OK {
			kind = []string{"", "Ask", "Told", "Pre", "Kept", "Fin", "Done", "Read", "Gave"}[m.Kind]
		}
		if p.Lost {
			kind += "?"
		}
		all = append(all, fmt.Sprintf("%c%d%s%c%d", " sc"[p.From.Kind], p.From.Id, kind, " sc"[p.To.Kind], p.To.Id))
	}
	return strings.Join(all, " ")
}

func flightIs(t *testing.T, c *cluster.Cluster, want string) {
	t.Helper()
	if got := flight(c); got != want {
		t.Errorf("P23.1: in flight are %s, want %s", got, want)
	}
}

// TestPhases: examples 1 and 2: what is in flight behind each round of a Put.
func TestPhases(t *testing.T) {
	c := made(t, api.Config{N: 1, K: 1}, 1)
	do(t, c, put(1, "k", "v"))
	flightIs(t, c, "c1Asks0")
	for i, want := range []string{
		"s0Toldc1 c1Asks0",
		"c1Pres0 s0Toldc1 c1Pres0",
		"s0Keptc1 s0Keptc1 c1Pres0",
		"c1Fins0 s0Keptc1 c1Fins0",
		"s0Donec1 s0Donec1 c1Fins0",
		"s0Donec1",
		"",
	} {
		es := round(t, c)
		if i == 5 {
			eventsAre(t, es, api.Event{Kind: api.Return, Client: 1, Op: 1, Put: true, Key: "k", Tag: api.Tag{Count: 1, Client: 1}})
		} else {
			eventsAre(t, es)
		}
		flightIs(t, c, want)
	}
}

// TestUntil: example 3, and the edges of most.
func TestUntil(t *testing.T) {
	c := made(t, api.Config{N: 1, K: 1}, 1)
	until(t, c, 0, 0, true)
	until(t, c, 9, 0, true)
	until(t, c, math.MaxInt, 0, true, []int{1})
	do(t, c, put(1, "k", "v"))
	state := c.State()
	until(t, c, 0, 0, false)
	until(t, c, 0, 0, false, []int{1}, nil)
	if c.State() != state {
		t.Errorf("P23.2: Until of no rounds changes something")
	}
	for most := 1; most < 6; most++ {
		until(t, c.Copy(), most, most, false)
	}
	for _, most := range []int{6, 7, 9, math.MaxInt} {
		d := c.Copy()
		until(t, d, most, 6, true)
		if es := d.History(); len(es) != 2 || es[1].Kind != api.Return || es[1].Status != api.OK {
			t.Errorf("P23.2: the history is %+v", es)
		}
		flightIs(t, d, "s0Donec1")
		until(t, d, most, 0, true) // what is in flight plays no part
		flightIs(t, d, "s0Donec1")
	}
	until(t, c, 5, 5, false)
	until(t, c, 5, 1, true)
}

// TestNobodyUp: example 4.
func TestNobodyUp(t *testing.T) {
	c := made(t, api.Config{N: 1, K: 1}, 1)
	do(t, c, put(1, "k", "v"), crash(0))
	until(t, c, 9, 9, false)
	flightIs(t, c, strings.TrimSpace(strings.Repeat("c1Asks0 ", 10)))
	eventsAre(t, round(t, c, 3, 2, 1))
	flightIs(t, c, strings.TrimSpace(strings.Repeat("c1Asks0 ", 11)))
	do(t, c, start(0))
	until(t, c, 9, 6, true)
	do(t, c, put(1, "k", "v"), crash(0))
	until(t, c, 1000, 1000, false)
}

func TestRefused(t *testing.T) {
	for _, order := range [][]int{nil, {}, {1, 2}} {
		if es, e := fair.Round(nil, order); len(es) != 0 || e != api.ErrArg {
			t.Errorf("P23.1: Round of no cluster is %v, %d", es, int(e))
		}
	}
	c := made(t, api.Config{N: 1, K: 1}, 1)
	do(t, c, put(1, "k", "v"))
	state := c.State()
	for _, most := range []int{-1, math.MinInt} {
		for _, x := range []*cluster.Cluster{nil, c} {
			if n, ok, e := fair.Until(x, most, []int{1}); n != 0 || ok || e != api.ErrArg {
				t.Errorf("P23.2: Until(%v, %d) is %d, %v, %d", x != nil, most, n, ok, int(e))
			}
		}
	}
	for _, most := range []int{0, 1, math.MaxInt} {
		if n, ok, e := fair.Until(nil, most); n != 0 || ok || e != api.ErrArg {
			t.Errorf("P23.2: Until of no cluster, %d is %d, %v, %d", most, n, ok, int(e))
		}
	}
	if c.State() != state || len(c.History()) != 1 {
		t.Errorf("P23.2: what is refused changes something")
	}
}

// TestNobody: a cluster without clients, and with clients that have nothing under way.
func TestNobody(t *testing.T) {
	for clients := range 3 {
		c := made(t, api.Config{N: 2, K: 1}, clients)
		state := c.State()
		eventsAre(t, round(t, c, 5, -5))
		until(t, c, 3, 0, true)
		if c.State() != state {
			t.Errorf("P23.3: a round in which nothing is under way changes something")
		}
	}
}

// TestOrders: one Ask to each of five servers: in the order in which they are delivered the answers stand in flight.
func TestOrders(t *testing.T) {
	for _, k := range []struct {
		order []int
		want  string
	}{
		{nil, "01234"},
		{[]int{0, 0, 0, 0, 0}, "01234"},
		{[]int{1}, "10234"},
		{[]int{4, 3, 2, 1, 0}, "43210"},
		{[]int{4, 3, 2, 1}, "43210"},
		{[]int{2, 2, 2}, "23401"},
		{[]int{0, 1}, "02134"},
		{[]int{5, 4, 3, 2, 1, 0}, "01234"},
		{[]int{6, 6, 6, 6, 6}, "13024"},
		{[]int{-1, -1, -1, -1, -1}, "43210"},
		{[]int{-5, -4, -3, -2, -1}, "01234"},
		{[]int{-6, -6, -6}, "42013"},
		{[]int{0, 0, 0, 0, 99, 1, 2, 3}, "01234"},
		{[]int{1, 1, 1, 1, 1, 7, 7, 7, 7}, "12340"},
		{[]int{math.MaxInt, math.MinInt}, "20134"}, // 2^63 - 1 modulo 5 is 2, -2^63 modulo 4 is 0
		{[]int{math.MinInt, math.MaxInt}, "24013"}, // -2^63 modulo 5 is 2, 2^63 - 1 modulo 4 is 3
		{[]int{1 << 40, -(1 << 40)}, "10234"},      // 2^40 modulo 5 is 1, -2^40 modulo 4 is 0
	} {
		c := made(t, api.Config{N: 5, K: 1}, 1)
		do(t, c, put(1, "k", "v"))
		eventsAre(t, round(t, c, k.order...))
		want := ""
		for _, id := range k.want {
			want += "s" + string(id) + "Toldc1 "
		}
		flightIs(t, c, want+"c1Asks0 c1Asks1 c1Asks2 c1Asks3 c1Asks4")
		d := made(t, api.Config{N: 5, K: 1}, 1)
		do(t, d, put(1, "k", "v"))
		until(t, d, 1, 1, false, k.order)
		if d.State() != c.State() {
			t.Errorf("P23.2: a round of Until by %v is another than Round's", k.order)
		}
	}
}

// TestOrdersOfUntil: each round by its own order, those behind their end by none.
func TestOrdersOfUntil(t *testing.T) {
	begun := func() *cluster.Cluster {
		c := made(t, api.Config{N: 3, K: 1}, 2)
		do(t, c, put(1, "k", "v"), get(2, "k"))
		return c
	}
	orders := [][]int{{5, 4, 3}, nil, {-1, 2, -3, 4, -5}, {}, {7}}
	for most := range 7 {
		c, d := begun(), begun()
		for i := range most {
			order := []int(nil)
			if i < len(orders) {
				order = orders[i]
			}
			round(t, d, order...)
		}
		_, _, _, _, _, one := d.Now(1)
		_, _, _, _, _, two := d.Now(2)
		until(t, c, most, most, one != api.OK && two != api.OK, orders...)
		if c.State() != d.State() || !sameEvents(c.History(), d.History()) {
			t.Errorf("P23.2: Until(%d) comes to\n%s, the rounds one by one to\n%s", most, c.State(), d.State())
		}
	}
}

// TestStays: what does not go between a live client and a server that is up stays in flight, as it is and in its order.
func TestStays(t *testing.T) {
	c := made(t, api.Config{N: 3, K: 1}, 3)
	do(t, c, get(1, "k"), get(2, "k"), get(3, "k"), deliver(1), deliver(4), deliver(4), deliver(3))
	flightIs(t, c, "c1Asks0 c1Asks2 c2Asks0 c3Asks1 c3Asks2 s1Toldc1 s2Toldc2 s0Toldc3 s1Toldc2")
	do(t, c, stop(2), crash(1), lose(2))
	until(t, c.Copy(), 0, 0, false)
	eventsAre(t, round(t, c, 3, 1)) // the round's: c1Asks0 c1Asks2 c3Asks2 s0Toldc3
	flightIs(t, c, "c2Ask?s0 c3Asks1 s1Toldc1 s2Toldc2 s1Toldc2 s2Toldc1 s0Toldc1 s2Toldc3 c1Asks0 c1Asks1 c1Asks2 c3Asks1 c3Asks2")
	do(t, c, start(1))           // now c3's and c1's are the round's, c2's are not
	eventsAre(t, round(t, c, 2), // s2Toldc1 first: with s1Toldc1 two of three have answered
		api.Event{Kind: api.Return, Client: 1, Op: 1, Key: "k", Status: api.ErrAbsent},
		api.Event{Kind: api.Return, Client: 3, Op: 1, Key: "k", Status: api.ErrAbsent})
	flightIs(t, c, "c2Ask?s0 s2Toldc2 s1Toldc2 s1Toldc3 s0Toldc1 s1Toldc1 s2Toldc1 s1Toldc3 s2Toldc3")
	until(t, c, 3, 0, true) // client 2 has a Get under way, and has stopped
	do(t, c, stop(1), stop(3))
	state := c.State()
	eventsAre(t, round(t, c, 1, 2, 3))
	if c.State() != state {
		t.Errorf("P23.1: a round without live clients changes something")
	}
}

// TestLostAndSpoilt: they are the round's, are counted, and vanish.
func TestLostAndSpoilt(t *testing.T) {
	c := made(t, api.Config{N: 4, K: 1}, 1)
	do(t, c, get(1, "k"), lose(1), api.Step{Kind: api.SBurst, A: 2, B: 9, L: []int{1}}, api.Step{Kind: api.SCut, A: 0})
	flightIs(t, c, "c1-s0 c1Ask?s1 c1-s2 c1Asks3")
	eventsAre(t, round(t, c, 2, 2, 0, 7))
	flightIs(t, c, "s3Toldc1 c1Asks0 c1Asks1 c1Asks2 c1Asks3")
	until(t, c, 9, 2, true)
}

// TestDiesMeanwhile: a server whose disk stops in a round: what goes to it vanishes, what it sent ahead of that comes.
func TestDiesMeanwhile(t *testing.T) {
	c := made(t, api.Config{N: 3, K: 1}, 2)
	do(t, c, put(1, "k", "v"))
	round(t, c)
	round(t, c)
	for len(c.Flight()) > 3 {
		do(t, c, drop(3))
	}
	do(t, c, get(2, "k"), deliver(3), deliver(3), deliver(3), api.Step{Kind: api.SDouble})
	flightIs(t, c, "c1Pres0 c1Pres1 c1Pres2 s0Toldc2 s1Toldc2 s2Toldc2 c1Pres0")
	do(t, c, drop(4), drop(4), die(0, 1))
	flightIs(t, c, "c1Pres0 c1Pres1 c1Pres2 s0Toldc2 c1Pres0")
	eventsAre(t, round(t, c))
	if c.Up(0) {
		t.Fatal("the test says little: server 0 is up")
	}
	flightIs(t, c, "s1Keptc1 s2Keptc1 c1Pres0 c1Pres1 c1Pres2 c2Asks1 c2Asks2") // server 0 has answered client 2
	eventsAre(t, round(t, c))
	flightIs(t, c, "c1Pres0 c1Fins0 c1Fins1 c1Fins2 s1Keptc1 s2Keptc1 s1Toldc2 s2Toldc2 c1Fins0 c1Fins1 c1Fins2 c2Asks1 c2Asks2")
	until(t, c, 9, 2, true)
	if c.Up(0) {
		t.Errorf("P23.3: a round has started a server")
	}
}

// TestTicks: by rising numbers, those that have nothing under way and those that have stopped bring nothing.
func TestTicks(t *testing.T) {
	c := made(t, api.Config{N: 1, K: 1}, 255)
	want := ""
	for id := 255; id > 0; id -= 2 {
		do(t, c, get(id, "k"))
	}
	for len(c.Flight()) > 0 {
		do(t, c, drop(0))
	}
	for id := 5; id < 200; id += 14 {
		do(t, c, stop(id), stop(id+1))
	}
	for id := 1; id < 256; id += 2 {
		if c.Live(id) {
			want += fmt.Sprintf("c%dAsks0 ", id)
		}
	}
	eventsAre(t, round(t, c, 1, 2))
	flightIs(t, c, strings.TrimSpace(want))
}

// TestForeign: an answer to a client that is not there is nobody's, and stays.
func TestForeign(t *testing.T) {
	c := made(t, api.Config{N: 1, K: 1}, 1)
	do(t, c, get(1, "k"))
	from := c.Flight()[0].Data
	to, e := frame.Encode(api.Message{Kind: api.Ask, Client: 2, Op: 1, Key: "k"})
	if e != api.OK || len(from) != len(to) {
		t.Fatal("the frames are of unlike lengths", e)
	}
	for i := range to {
		do(t, c, api.Step{Kind: api.SBurst, B: 8 * i, L: []int{int(from[i] ^ to[i])}})
	}
	do(t, c, deliver(0))
	flightIs(t, c, "s0Toldc2")
	eventsAre(t, round(t, c))
	flightIs(t, c, "s0Toldc2 c1Asks0")
	until(t, c, 9, 2, true, []int{1, 1}, []int{-1})
	flightIs(t, c, "s0Toldc2 s0Toldc1")
}

// TestManyReturns: several operations end in one round: their events in the order of the steps.
func TestManyReturns(t *testing.T) {
	absent := func(id int) api.Event {
		return api.Event{Kind: api.Return, Client: id, Op: 1, Key: "k", Status: api.ErrAbsent}
	}
	for _, k := range []struct{ order, clients []int }{
		{nil, []int{1, 2, 3, 4}},
		{[]int{2, 2}, []int{3, 4, 1, 2}},
		{[]int{3, 2, 1, 0}, []int{4, 3, 2, 1}},
	} {
		c := made(t, api.Config{N: 1, K: 1}, 4)
		do(t, c, get(1, "k"), get(2, "k"), get(3, "k"), get(4, "k"))
		eventsAre(t, round(t, c))
		es := round(t, c, k.order...)
		var want []api.Event
		for _, id := range k.clients {
			want = append(want, absent(id))
		}
		eventsAre(t, es, want...)
		if h := c.History(); !sameEvents(h[4:], want) {
			t.Errorf("P23.1: the history goes on with %v, the round with %v", h[4:], want)
		}
	}
}

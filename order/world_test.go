package order_test

import (
	"fmt"
	"math/rand"
	"testing"

	"sherd/api"
	"sherd/client"
	"sherd/disk"
	"sherd/history"
	"sherd/linear"
	"sherd/order"
	"sherd/server"
)

// world is clients and servers with their disks, and the messages between them, which are lost, doubled and come in any order; servers crash, clients give up and stop. What clients see is written down.
type world struct {
	t       *testing.T
	r       *rand.Rand
	config  api.Config
	disks   []*disk.Disk
	servers []*server.Server // nil: down
	clients []*client.Client // of the ids 1, 2, ..
	stopped []bool
	flight  []api.Message
	es      []api.Event
	full    bool // some Put is told of a counter near the end
}

func newWorld(t *testing.T, r *rand.Rand, config api.Config, clients int) *world {
	w := &world{t: t, r: r, config: config, servers: make([]*server.Server, config.N), stopped: make([]bool, clients), full: r.Intn(6) == 0}
	for i := range config.N {
		w.disks = append(w.disks, disk.New())
		w.start(i)
	}
	for i := range clients {
		c, e := client.New(config, i+1)
		if e != api.OK {
			t.Fatal(e)
		}
		w.clients = append(w.clients, c)
	}
	return w
}

func (w *world) start(i int) {
	s, e := server.Open(api.Head{Config: w.config, Server: i}, w.disks[i])
	if e != api.OK {
		w.t.Fatal(e)
	}
	w.servers[i] = s
}

func (w *world) crash(i int) {
	choices := make([]int, w.r.Intn(4))
	for at := range choices {
		choices[at] = w.r.Intn(9)
	}
	w.servers[i], w.disks[i] = nil, w.disks[i].Crash(choices)
}

func (w *world) begin(id int, isPut bool, key, value string) {
	c := w.clients[id-1]
	e := api.Event{Kind: api.Invoke, Client: id, Put: isPut, Key: key}
	var l []api.Message
	if isPut {
		e.Value = []byte(value)
		e.Op, l, _ = c.Put(key, e.Value)
	} else {
		e.Op, l, _ = c.Get(key)
	}
	w.es = append(w.es, e)
	w.flight = append(w.flight, l...)
}

func (w *world) cancel(id int) {
	_, isPut, key, _, _, _ := w.clients[id-1].Now()
	r, _ := w.clients[id-1].Cancel()
	e := api.Event{Kind: api.Cancel, Client: id, Op: r.Op, Put: isPut, Key: key}
	if isPut {
		e.Tag = r.Tag
	}
	w.es = append(w.es, e)
}

func (w *world) toServer(m api.Message) {
	if w.servers[m.Server] == nil {
		return
	}
	l, e := w.servers[m.Server].Handle(m)
	if e == api.ErrDead {
		w.crash(m.Server)
	}
	w.flight = append(w.flight, l...)
}

func (w *world) toClient(m api.Message) {
	if w.stopped[m.Client-1] {
		return
	}
	_, isPut, _, _, _, _ := w.clients[m.Client-1].Now()
	if late := tg(api.MaxCount-int64(w.r.Intn(3)), 2); w.full && isPut && m.Kind == api.Told && above(late, m.Top) {
		m.Top = late // a higher one does a Put no harm, and the counters end soon
	}
	l, r, end := w.clients[m.Client-1].Handle(m)
	w.flight = append(w.flight, l...)
	if end {
		w.es = append(w.es, api.Event{Kind: api.Return, Client: m.Client, Op: r.Op, Put: r.Put, Key: m.Key, Value: r.Value, Status: r.Status, Tag: r.Tag})
	}
}

// deliver is one message of those in flight, which may be lost or doubled.
func (w *world) deliver() {
	if len(w.flight) == 0 {
		return
	}
	at := w.r.Intn(len(w.flight))
	m := w.flight[at]
	fate := w.r.Intn(12)
	if fate != 0 {
		w.flight[at] = w.flight[len(w.flight)-1]
		w.flight = w.flight[:len(w.flight)-1]
	}
	switch {
	case fate == 1:
	case m.Kind%2 == 1:
		w.toServer(m)
	default:
		w.toClient(m)
	}
}

// step is what comes next.
func (w *world) step(keys, rare int) {
	id, i := 1+w.r.Intn(len(w.clients)), w.r.Intn(w.config.N)
	_, _, _, _, _, idle := w.clients[id-1].Now()
	switch k := w.r.Intn(rare); {
	case k == 0 && w.servers[i] != nil:
		w.crash(i)
	case k == 1 && w.servers[i] != nil:
		w.disks[i].Stop(1+w.r.Intn(5), w.r.Intn(2) == 0)
	case k < 12 && w.servers[i] == nil:
		w.start(i)
	case k == 2 && len(w.clients) > 1:
		w.stopped[id-1] = true
	case w.stopped[id-1]:
		w.deliver()
	case k < 6 && idle == api.OK:
		w.cancel(id)
	case k < 30 && idle != api.OK:
		w.begin(id, w.r.Intn(2) == 0, fmt.Sprint("k", w.r.Intn(keys)), fmt.Sprint("v", w.r.Intn(4)))
	case k < 45 && idle == api.OK:
		w.flight = append(w.flight, w.clients[id-1].Tick()...)
	default:
		w.deliver()
	}
}

// tally is how much of each kind was seen.
type tally struct {
	calls, silent, read, full, absent, spoilt int
}

// judge looks at what was seen so far.
func (w *world) judge(n *tally) {
	calls, e := history.Calls(w.es)
	if e != api.OK {
		w.t.Fatalf("no history: %d", int(e))
	}
	for _, key := range history.Keys(w.es) {
		var of []api.Call
		for _, c := range calls {
			if c.Key == key {
				of = append(of, c)
			}
		}
		o, e := order.ByTags(of)
		if e != api.OK || order.Check(of, o) != api.OK {
			text, _ := history.Text(w.es)
			w.t.Fatalf("O3: of %q ByTags is %v, %d, and Check of that %d:\n%s", key, o, int(e), int(order.Check(of, o)), text)
		}
		if _, can, e := linear.One(of); e == api.OK && !can {
			w.t.Fatalf("O2: linear finds no order of %s", told(of))
		}
		n.count(of, o)
		w.spoil(n, of, o)
	}
}

func (n *tally) count(calls []api.Call, o []int) {
	n.calls += len(calls)
	for _, c := range calls {
		if c.Status == api.ErrFull {
			n.full++
		}
		if c.Status == api.ErrAbsent {
			n.absent++
		}
	}
	for _, i := range o {
		if calls[i].Open {
			n.read++
			if calls[i].Tag == tg(0, 0) {
				n.silent++
			}
		}
	}
}

// spoil: a Get that tells a value of another tag than its own is found.
func (w *world) spoil(n *tally, calls []api.Call, o []int) {
	for _, i := range o {
		if c := calls[i]; !c.Put && c.Status == api.OK {
			calls[i].Value = []byte("nobody's")
			if order.Check(calls, o) != api.ErrOrder {
				w.t.Fatalf("O1: Check of %s by %v is OK", told(calls), o)
			}
			calls[i] = c
			n.spoilt++
		}
	}
}

// TestWhatClientsSee: whatever happens, at each time the tags tell an order that explains what clients saw.
func TestWhatClientsSee(t *testing.T) {
	r := rand.New(rand.NewSource(214))
	var n tally
	for range 2500 {
		servers := 1 + r.Intn(5)
		w := newWorld(t, r, api.Config{N: servers, K: 1 + r.Intn(servers), Delta: r.Intn(2)}, 1+r.Intn(5))
		keys, rare := 1+r.Intn(2), 100+r.Intn(500)
		for range 1 + r.Intn(4) {
			for range r.Intn(800) {
				w.step(keys, rare)
			}
			w.judge(&n)
		}
	}
	if n.calls < 10000 || n.silent < 100 || n.read < 200 || n.full < 50 || n.absent < 100 || n.spoilt < 1000 {
		t.Errorf("the test says little: %+v", n)
	}
	t.Logf("%+v", n)
}

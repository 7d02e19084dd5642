package client_test

import (
	"fmt"
	"math/rand/v2"
	"testing"

	"sherd/api"
	"sherd/client"
	"sherd/disk"
	"sherd/quorum"
	"sherd/server"
)

// world is clients and servers, and the messages between them, which are lost, doubled and come in any order.
type world struct {
	t       *testing.T
	rnd     *rand.Rand
	config  api.Config
	servers []*server.Server // nil: down
	clients []*client.Client // of the ids 1, 2, ..
	began   []began          // what each has under way
	flight  []api.Message
	put     map[api.Tag]string // what was put with a tag, of the key
	last    map[string]api.Tag // of each key the highest tag of what has returned OK
	ended   map[api.Errno]int
}

// began is what stood when an operation was begun.
type began struct {
	key, value string
	last       api.Tag
}

func newWorld(t *testing.T, rnd *rand.Rand, config api.Config, clients int) *world {
	w := &world{t: t, rnd: rnd, config: config, began: make([]began, clients), put: map[api.Tag]string{}, last: map[string]api.Tag{}, ended: map[api.Errno]int{}}
	for i := range config.N {
		s, e := server.Open(api.Head{Config: config, Server: i}, disk.New())
		if e != api.OK {
			t.Fatal(e)
		}
		w.servers = append(w.servers, s)
	}
	for i := range clients {
		w.clients = append(w.clients, made(t, config, i+1))
	}
	return w
}

func (w *world) begin(i int, put bool, key, value string) {
	w.began[i] = began{key, value, w.last[key]}
	var l []api.Message
	var e api.Errno
	if put {
		_, l, e = w.clients[i].Put(key, []byte(value))
	} else {
		_, l, e = w.clients[i].Get(key)
	}
	if e != api.OK {
		w.t.Fatalf("L1: an operation is refused with %d", e)
	}
	w.flight = append(w.flight, l...)
}

func (w *world) deliver(m api.Message) {
	if m.Kind%2 == 1 {
		if s := w.servers[m.Server]; s != nil {
			l, e := s.Handle(m)
			if e != api.OK {
				w.t.Fatalf("L1: a server refuses the request %+v with %d", m, e)
			}
			w.flight = append(w.flight, l...)
		}
		return
	}
	l, r, end := w.clients[m.Client-1].Handle(m)
	w.flight = append(w.flight, l...)
	for _, m := range l {
		if m.Kind == api.Pre {
			w.put[m.Tag] = w.began[m.Client-1].value
		}
	}
	if end {
		w.judge(w.began[m.Client-1], r)
	}
}

// judge: the tags of what has ended go with what had ended when it was begun.
func (w *world) judge(b began, r api.Result) {
	w.ended[r.Status]++
	switch r.Status {
	case api.OK:
		if above(b.last, r.Tag) || r.Put && r.Tag == b.last {
			w.t.Fatalf("P6: put %v ends with %v behind %v", r.Put, r.Tag, b.last)
		}
		if value, was := w.put[r.Tag]; !r.Put && (!was || value != string(r.Value)) {
			w.t.Fatalf("P6: a Get tells %q of %v, of which %q was put", r.Value, r.Tag, value)
		}
		if above(r.Tag, w.last[b.key]) {
			w.last[b.key] = r.Tag
		}
	case api.ErrAbsent:
		if r.Put || b.last != (api.Tag{}) {
			w.t.Fatalf("P6: a Get tells that nothing was put behind %v", b.last)
		}
	default:
		w.t.Fatalf("P6: an operation ends with %d", r.Status)
	}
}

// step is one message, or a tick.
func (w *world) step() {
	if len(w.flight) == 0 || w.rnd.IntN(20) == 0 {
		w.flight = append(w.flight, pick(w.rnd, w.clients).Tick()...)
		return
	}
	at := w.rnd.IntN(len(w.flight))
	m := w.flight[at]
	switch w.rnd.IntN(10) {
	case 0: // doubled: it stays in flight
		w.deliver(m)
		return
	case 1: // lost
		m.Kind = 0
	}
	w.flight[at] = w.flight[len(w.flight)-1]
	w.flight = w.flight[:len(w.flight)-1]
	if m.Kind != 0 {
		w.deliver(m)
	}
}

// settle goes on until all have ended.
func (w *world) settle() {
	for range 200000 {
		busy := false
		for _, c := range w.clients {
			busy = busy || nowOf(c).e == api.OK
		}
		if !busy {
			return
		}
		w.step()
	}
	w.t.Fatalf("P7: %v: it does not end", w.config)
}

// TestOneBehindTheOther: whatever is lost, each Get tells what the last Put has put, with as many servers down as may be.
func TestOneBehindTheOther(t *testing.T) {
	rnd := rand.New(rand.NewPCG(18, 7))
	for n := 1; n <= 7; n++ {
		for k := 1; k <= n; k++ {
			w := newWorld(t, rnd, api.Config{N: n, K: k, Delta: rnd.IntN(2)}, 3)
			down, _ := quorum.Down(w.config)
			w.begin(0, false, "k", "")
			w.settle()
			for i := range 8 {
				up := w.servers
				w.servers = append([]*server.Server(nil), up...)
				for _, s := range rnd.Perm(n)[:down] {
					w.servers[s] = nil
				}
				w.begin(rnd.IntN(3), true, "k", fmt.Sprint("value ", i))
				w.settle()
				w.begin(rnd.IntN(3), false, "k", "")
				w.settle()
				if got, want := w.put[w.last["k"]], fmt.Sprint("value ", i); got != want {
					t.Fatalf("P6: %v: the last tag's value is %q, want %q", w.config, got, want)
				}
				w.servers = up
			}
			if w.ended[api.OK] != 16 || w.ended[api.ErrAbsent] != 1 {
				t.Errorf("P6: %v: %v", w.config, w.ended)
			}
		}
	}
}

// TestAllAtOnce: clients that put and get at once, and give up at times.
func TestAllAtOnce(t *testing.T) {
	rnd := rand.New(rand.NewPCG(18, 8))
	ended := map[api.Errno]int{}
	for round := range 400 {
		n := 1 + rnd.IntN(5)
		w := newWorld(t, rnd, api.Config{N: n, K: 1 + rnd.IntN(n), Delta: rnd.IntN(2)}, 4)
		for i := range 1500 {
			c := rnd.IntN(4)
			switch idle := nowOf(w.clients[c]).e != api.OK; {
			case idle && rnd.IntN(10) == 0:
				w.begin(c, rnd.IntN(2) == 0, "k", fmt.Sprint(round, i))
			case !idle && rnd.IntN(200) == 0:
				w.clients[c].Cancel()
			default:
				w.step()
			}
		}
		w.settle()
		for status, count := range w.ended {
			ended[status] += count
		}
	}
	if ended[api.OK] < 1000 || ended[api.ErrAbsent] < 20 {
		t.Errorf("the test says little: %v", ended)
	}
	t.Log(ended)
}

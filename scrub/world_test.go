package scrub_test

import (
	"bytes"
	"math/rand/v2"
	"slices"
	"strings"
	"testing"

	"sherd/api"
	"sherd/cluster"
	"sherd/fair"
	"sherd/scrub"
	"sherd/stripe"
)

// spot is a tag of a key.
type spot struct {
	key string
	tag api.Tag
}

// world is a cluster, and what is known of it from outside: which Put chose which tag.
type world struct {
	*rand.Rand
	t      *testing.T
	c      api.Config
	in     *cluster.Cluster
	puts   []string        // by client: the value of its last Put
	values map[spot]string // by what was chosen
	n      counts
}

func newWorld(t *testing.T, r *rand.Rand, c api.Config, clients int) *world {
	t.Helper()
	in, e := cluster.New(c, clients)
	if e != api.OK {
		t.Fatalf("cluster.New is %d", int(e))
	}
	return &world{Rand: r, t: t, c: c, in: in, puts: make([]string, clients+1), values: map[spot]string{}, n: counts{}}
}

// do does a step, and writes down which tags are chosen now.
func (w *world) do(s api.Step) {
	w.t.Helper()
	if _, e := w.in.Do(s); e == api.OK && s.Kind == api.SPut {
		w.puts[s.A] = string(s.Value)
	}
	for client := 1; client < len(w.puts); client++ {
		_, put, key, g, _, e := w.in.Now(client)
		if e != api.OK || !put || g == (api.Tag{}) {
			continue
		}
		at := spot{key, g}
		if value, there := w.values[at]; there && value != w.puts[client] {
			w.t.Fatalf("P6: two Puts have the tag %v of %q", g, key)
		}
		w.values[at] = w.puts[client]
	}
}

// step draws what happens; what is spoilt is delivered at once, so that nothing is spoilt twice.
func (w *world) step() {
	w.t.Helper()
	client, server, datagram := 1+w.IntN(len(w.puts)-1), w.IntN(w.c.N), w.IntN(1<<20)
	switch pick := w.IntN(220); {
	case pick < 20:
		w.do(api.Step{Kind: api.SPut, A: client, Key: w.key(), Value: w.value()})
	case pick < 28:
		w.do(api.Step{Kind: api.SGet, A: client, Key: w.key()})
	case pick < 31:
		w.do(api.Step{Kind: api.SCancel, A: client})
	case pick < 37:
		w.do(api.Step{Kind: api.STick, A: client})
	case pick < 40:
		w.do(api.Step{Kind: api.SDrop, A: datagram})
	case pick < 44:
		w.do(api.Step{Kind: api.SDouble, A: datagram})
	case pick < 47:
		w.do(api.Step{Kind: api.SBurst, A: datagram, B: w.IntN(200), L: []int{1 + w.IntN(1<<31)}})
		w.do(api.Step{Kind: api.SDeliver, A: datagram})
	case pick < 49:
		w.do(api.Step{Kind: api.SCut, A: datagram, B: w.IntN(30)})
		w.do(api.Step{Kind: api.SDeliver, A: datagram})
	case pick < 51:
		w.do(api.Step{Kind: api.SCrash, A: server, L: w.list()})
	case pick < 58:
		w.do(api.Step{Kind: api.SStart, A: server})
	case pick < 60:
		w.do(api.Step{Kind: api.SDie, A: server, B: 1 + w.IntN(4), L: w.list()})
	case pick < 62:
		w.do(api.Step{Kind: api.SCompact, A: server})
	case pick == 62 && w.IntN(9) == 0:
		w.do(api.Step{Kind: api.SStop, A: client})
	default:
		w.do(api.Step{Kind: api.SDeliver, A: datagram})
	}
}

func (w *world) key() string { return []string{"k", "j"}[w.IntN(2)] }

// value is unlike all others, most often.
func (w *world) value() []byte {
	b := make([]byte, w.IntN(12))
	for i := range b {
		b[i] = byte(w.IntN(256))
	}
	return b
}

func (w *world) list() []int {
	l := make([]int, w.IntN(4))
	for i := range l {
		l[i] = w.IntN(40)
	}
	return l
}

// tables is what the servers hold that are up; of these some are not looked at.
func (w *world) tables(without int) [][]api.Held {
	w.t.Helper()
	tables := make([][]api.Held, w.c.N)
	for i := range tables {
		held, e := w.in.Table(i)
		if (e == api.OK) != w.in.Up(i) {
			w.t.Fatalf("P22.3: Table of %d is %d", i, int(e))
		}
		if w.IntN(100) >= without {
			tables[i] = held
		}
	}
	return tables
}

// judge is P27.4 of tables.
func (w *world) judge(tables [][]api.Held) {
	w.t.Helper()
	all := check(w.t, w.c, tables)
	for _, f := range all {
		value, there := w.values[spot{f.Key, f.Tag}]
		got, e := scrub.Value(w.c, tables, f.Key, f.Tag)
		if len(f.Wrong) > 0 || !there {
			w.t.Fatalf("P27.4: of %+v %q, %v is wrong at %v, chosen: %v:%s", w.c, f.Key, f.Tag, f.Wrong, there, text(tables))
		}
		if len(f.Has) < w.c.K {
			w.n["too few"]++
			if f.Whole || e != api.ErrFew {
				w.t.Fatalf("P27.1: of %+v %d have %q, %v: Whole is %v, Value %d:%s", w.c, len(f.Has), f.Key, f.Tag, f.Whole, int(e), text(tables))
			}
			continue
		}
		w.n["whole"]++
		if !f.Whole || e != api.OK || string(got) != value {
			w.t.Fatalf("P27.4: of %+v %d have %q, %v: Whole is %v, Value %q, %d, want %q:%s", w.c, len(f.Has), f.Key, f.Tag, f.Whole, got, int(e), value, text(tables))
		}
	}
	for i := range w.c.N {
		w.judgeLacks(tables, i)
	}
}

// judgeLacks: what a server is told to lack is the fragment that the Put would have sent it.
func (w *world) judgeLacks(tables [][]api.Held, server int) {
	w.t.Helper()
	us, _ := scrub.Lacks(w.c, tables, server)
	for _, u := range us {
		value := w.values[spot{u.Key, u.Entry.Tag}]
		want, e := stripe.Cut(made(w.c), []byte(value), server)
		if e != api.OK || !bytes.Equal(u.Entry.Data, want) {
			w.t.Fatalf("P27.3: server %d lacks %v, want %x:%s", server, u, want, text(tables))
		}
		w.n["lacks"]++
	}
	d := drawer{c: w.c}
	d.giveWhatLacks(w.t, tables, server)
}

// TestWorld: runs in which all goes wrong that may, looked at again and again.
func TestWorld(t *testing.T) {
	r := rand.New(rand.NewPCG(27, 4))
	n := counts{}
	for range 800 {
		servers := 1 + r.IntN(6)
		w := newWorld(t, r, api.Config{N: servers, K: 1 + r.IntN(servers), Delta: r.IntN(3)}, 1+r.IntN(4))
		w.n = n
		for range 1 + r.IntN(5) {
			for range r.IntN(200) {
				w.step()
			}
			w.judge(w.tables(0))
			w.judge(w.tables(30))
		}
	}
	n.atLeast(t, 1500, "whole", "too few", "lacks")
	t.Log(n)
}

// TestBehindAPut: a server that was down while a Put came to its end lacks its fragment, and no other does.
func TestBehindAPut(t *testing.T) {
	for _, c := range []api.Config{{N: 3, K: 1}, {N: 4, K: 2}, {N: 5, K: 3}, {N: 255, K: 85}, {N: 7, K: 5}} {
		w := newWorld(t, rand.New(rand.NewPCG(27, 8)), c, 1)
		value, key := strings.Repeat("some bytes ", 99), strings.Repeat("\xff", 64)
		w.do(api.Step{Kind: api.SCrash, A: 1})
		w.do(api.Step{Kind: api.SPut, A: 1, Key: key, Value: []byte(value)})
		if _, ended, e := fair.Until(w.in, 9); !ended || e != api.OK {
			t.Fatalf("P7: the Put has not ended, %d", int(e))
		}
		w.do(api.Step{Kind: api.SStart, A: 1})
		tables := w.tables(0)
		all, e := scrub.Look(c, tables)
		if e != api.OK || len(all) != 1 || !all[0].Whole || len(all[0].Wrong) > 0 || len(all[0].Has) != c.N-1 || slices.Contains(all[0].Has, 1) || all[0].Tag != tg(1, 1) || all[0].Key != key {
			t.Errorf("P27.4: %+v: Look is %+v, %d", c, all, int(e))
		}
		if got, e := scrub.Value(c, tables, key, tg(1, 1)); string(got) != value || e != api.OK {
			t.Errorf("P27.4: %+v: Value is %d bytes, %d", c, len(got), int(e))
		}
		for i := range c.N {
			us, e := scrub.Lacks(c, tables, i)
			if want := i == 1; e != api.OK || (len(us) == 1) != want {
				t.Errorf("P27.3: %+v: Lacks of %d is %d updates, %d", c, i, len(us), int(e))
			}
		}
	}
}

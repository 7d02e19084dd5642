package cluster_test

import (
	"bytes"
	"fmt"
	"math/rand/v2"
	"testing"

	"sherd/api"
	"sherd/cluster"
)

// marked: lists of bytes of which no two share memory, the spare room behind them neither.
func marked(t *testing.T, what string, lists [][]byte) {
	t.Helper()
	for i, l := range lists {
		for j := range l[:cap(l)] {
			l[:cap(l)][j] = byte(i)
		}
	}
	for i, l := range lists {
		for _, b := range l[:cap(l)] {
			if b != byte(i) {
				t.Fatalf("P22.7: two lists of %s share memory", what)
			}
		}
	}
}

func ofEvents(es []api.Event) [][]byte {
	var all [][]byte
	for i := range es {
		all = append(all, es[i].Value)
		es[i].Key, es[i].Kind = "scrawl", 99
	}
	return all
}

// scrawl writes into all that a cluster answers.
func scrawl(t *testing.T, c *cluster.Cluster) {
	t.Helper()
	es, fs := c.History(), c.History()
	marked(t, "History", append(ofEvents(es), ofEvents(fs)...))
	es = append(es, api.Event{Kind: 77})
	var all [][]byte
	for range 2 {
		ps := c.Flight()
		for i := range ps {
			all = append(all, ps[i].Data)
			ps[i] = api.Packet{Lost: true}
		}
	}
	marked(t, "Flight", all)
	config, _ := c.Config()
	for i := range config.N {
		slots, _, _ := c.Slots(i)
		more, _, _ := c.Slots(i)
		marked(t, "Slots", [][]byte{slots[0], slots[1], more[0], more[1]})
		all = nil
		for range 2 {
			hs, _ := c.Table(i)
			for j := range hs {
				for k := range hs[j].Entries {
					all = append(all, hs[j].Entries[k].Data)
					hs[j].Entries[k] = api.Entry{}
				}
				hs[j].Entries = append(hs[j].Entries, api.Entry{Fin: true})
				hs[j].Key = "scrawl"
			}
		}
		marked(t, "Table", all)
	}
}

// TestAnswersAreNew: long scripts in which all that is answered and all that was handed in is written into, beside a paper that sees nothing of it.
func TestAnswersAreNew(t *testing.T) {
	r := rand.New(rand.NewPCG(22, 8))
	for range 150 {
		a := newPair(t, drawConfig(r), 1+r.IntN(3))
		m := wild()
		m.dies = 4
		s := &script{Rand: r, mood: m, p: a.p}
		for range r.IntN(300) {
			for _, x := range s.next() {
				want, f := a.p.do(x)
				value := append(bytes.Clone(x.Value), "behind"...)
				list := append(append([]int{}, x.L...), 8, 8, 8)
				x.Value, x.L = value[:len(x.Value)], list[:len(x.L)]
				before := fmt.Sprint(value, list)
				got, e := a.c.Do(x)
				if e != f || !sameEvents(got, want) {
					t.Fatalf("P22.7: %+v is %v, %d, want %v, %d", x, got, int(e), want, int(f))
				}
				if fmt.Sprint(value, list) != before {
					t.Fatalf("P22.7: %+v has changed what was handed in: %v, %v", x, value, list)
				}
				for i := range value {
					value[i] = 0x5a
				}
				for i := range list {
					list[i] = 7
				}
				marked(t, "events", ofEvents(got))
			}
			if r.IntN(20) == 0 {
				scrawl(t, a.c)
				scrawl(t, a.c.Copy())
			}
			a.state()
		}
		a.all()
	}
}

// TestValuesOfTwo: a copy's answers and the first one's share nothing.
func TestValuesOfTwo(t *testing.T) {
	c := made(t, api.Config{N: 2, K: 2}, 2)
	do(t, c, put(1, "k", "value"))
	far(t, c)
	do(t, c, get(2, "k"))
	is(t, far(t, c), api.Event{Kind: api.Return, Client: 2, Op: 1, Key: "k", Value: []byte("value"), Tag: g(1, 1)})
	do(t, c, put(1, "k", "other"), deliver(0), get(2, "k"), die(1, 9, 1, 2, 3))
	state, events := c.State(), fmt.Sprint(c.History())
	d := c.Copy()
	marked(t, "two clusters", append(ofEvents(c.History()), ofEvents(d.History())...))
	scrawl(t, c)
	scrawl(t, d)
	do(t, d, crash(0), stop(1), cancel(2), get(2, "j"), die(1, 0))
	if c.State() != state || fmt.Sprint(c.History()) != events {
		t.Errorf("P22.5: what becomes of a copy is seen: %s", c.State())
	}
	state = d.State()
	do(t, c, cancel(1), small(1), tick(2))
	if d.State() != state {
		t.Errorf("P22.5: a copy sees what becomes of the first one: %s", d.State())
	}
}

func TestNil(t *testing.T) {
	var c *cluster.Cluster
	for kind := -1; kind < 18; kind++ {
		if es, e := c.Do(api.Step{Kind: kind, A: -1, B: -1}); len(es) != 0 || e != api.OK {
			t.Errorf("P22.7: Do of a nil cluster is %v, %d", es, int(e))
		}
	}
	config, clients := c.Config()
	table, e := c.Table(0)
	slots, current, f := c.Slots(0)
	op, put, key, tag, phase, h := c.Now(1)
	got := fmt.Sprintln(config, clients, c.History(), c.Flight(), c.Up(0), c.Live(1), table, int(e), slots, current, int(f), op, put, key, tag, phase, int(h), c.State(), c.Copy() == nil)
	if want := "{0 0 0} 0 [] [] false false [] 0 [[] []] 0 0 0 false  {0 0} 0 0  true\n"; got != want {
		t.Errorf("P22.7: a nil cluster tells %q, want %q", got, want)
	}
}

// TestTwoClusters: clusters have nothing to do with each other.
func TestTwoClusters(t *testing.T) {
	a, b := made(t, api.Config{N: 2, K: 1}, 1), made(t, api.Config{N: 2, K: 1}, 1)
	state := b.State()
	do(t, a, put(1, "k", "x"), deliver(0), crash(1), stop(1))
	if b.State() != state || len(b.History()) != 0 {
		t.Errorf("P5: what becomes of one cluster is seen in another")
	}
}

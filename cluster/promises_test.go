package cluster_test

import (
	"bytes"
	"fmt"
	"math/rand/v2"
	"slices"
	"strings"
	"testing"

	"sherd/api"
	"sherd/cluster"
	"sherd/frame"
	"sherd/history"
	"sherd/linear"
	"sherd/order"
	"sherd/record"
)

// careful is a pair of which no datagram is spoilt twice, and beside it a cluster in which those that are spoilt vanish in place of that.
type careful struct {
	*pair
	spoilt []bool // by the numbers in flight
	lossy  *cluster.Cluster
	values map[string][]byte // by key and tag: what was put
	n      seen
}

func newCareful(t *testing.T, config api.Config, clients int) *careful {
	t.Helper()
	return &careful{pair: newPair(t, config, clients), lossy: made(t, config, clients), values: map[string][]byte{}, n: seen{}}
}

// spoils tells whether a burst or a cut changes the bytes of the datagram.
func (k *careful) spoils(s api.Step) bool {
	if s.Kind != api.SBurst && s.Kind != api.SCut || s.B < 0 || len(k.p.flight) == 0 {
		return false
	}
	data := k.p.flight[mod(s.A, len(k.p.flight))].Data
	if s.Kind == api.SCut {
		return s.B < len(data)
	}
	for j := range 32 {
		if len(s.L) > 0 && s.L[0]>>j&1 == 1 && s.B/8 < len(data) && (s.B+j)/8 < len(data) {
			return true
		}
	}
	return false
}

// step does a step, but leaves out one that would spoil what is spoilt.
func (k *careful) step(s api.Step) {
	k.t.Helper()
	n, at, spoils := len(k.spoilt), 0, k.spoils(s)
	if n > 0 {
		at = mod(s.A, n)
	}
	if spoils && k.spoilt[at] {
		return
	}
	es, e := k.c.Do(s)
	k.p.do(s)
	if spoils {
		s = lose(s.A)
		k.spoilt[at] = true
		k.n["spoilt"]++
	}
	fs, f := k.lossy.Do(s)
	if e != f || !sameEvents(es, fs) {
		k.t.Fatalf("P9: %+v: %v, %d, and where the spoilt ones vanish: %v, %d", s, es, int(e), fs, int(f))
	}
	if n > 0 && (s.Kind == api.SDeliver || s.Kind == api.SDrop) {
		k.spoilt = slices.Delete(k.spoilt, at, at+1)
	}
	if n > 0 && s.Kind == api.SDouble {
		k.spoilt = append(k.spoilt, k.spoilt[at])
	}
	for len(k.spoilt) < len(k.p.flight) {
		k.spoilt = append(k.spoilt, false)
	}
	k.write()
}

// write writes down which values have which tags.
func (k *careful) write() {
	for _, c := range k.p.clients {
		if c.busy && c.put && c.phase > 1 {
			k.values[c.key+" "+tagText(c.tag)] = c.value
		}
	}
}

// judge looks at all that the whole promises.
func (k *careful) judge() {
	k.t.Helper()
	es := k.c.History()
	judgeHistory(k.t, es, k.n)
	k.judgeLost()
	for i := range k.p.c.N {
		k.judgeHeld(i)
	}
}

// judgeHistory: P6 and O3.
func judgeHistory(t *testing.T, es []api.Event, n seen) {
	t.Helper()
	text, e := history.Text(es)
	if at, f := history.Check(es); f != api.OK || e != api.OK {
		t.Fatalf("P6: event %d of the history may not stand there: %d", at, int(f))
	}
	if key, ok, e := linear.All(es); !ok && e != api.ErrHeavy {
		t.Fatalf("P6: of %q no order explains the history, %d:\n%s", key, int(e), text)
	} else if ok {
		n["linear"]++
	}
	calls, _ := history.Calls(es)
	for _, key := range history.Keys(es) {
		var of []api.Call
		for _, c := range calls {
			if c.Key == key {
				of = append(of, c)
			}
		}
		o, e := order.ByTags(of)
		if e != api.OK {
			t.Fatalf("O3: of %q ByTags is %d:\n%s", key, int(e), text)
		}
		if e := order.Check(of, o); e != api.OK {
			t.Fatalf("O3: of %q Check of the order by tags is %d:\n%s", key, int(e), text)
		}
		for _, c := range of {
			judgeGet(t, of, c, text)
			if c.Open && slices.ContainsFunc(o, func(i int) bool { return of[i].Client == c.Client && of[i].Op == c.Op }) {
				n["open and read"]++
			}
		}
	}
}

// judgeGet: a Get has the bytes of a Put that was invoked ahead of its return, and is ErrAbsent only where none had returned ahead of its invocation.
func judgeGet(t *testing.T, of []api.Call, c api.Call, text string) {
	t.Helper()
	if c.Put || c.To < 0 {
		return
	}
	some := c.Status == api.ErrAbsent
	for _, p := range of {
		some = some || p.Put && p.From < c.To && bytes.Equal(p.Value, c.Value)
		if p.Put && !p.Open && p.To < c.From && c.Status == api.ErrAbsent {
			t.Fatalf("P6: a Get is ErrAbsent behind a Put:\n%s", text)
		}
	}
	if !some || c.Status != api.OK && c.Status != api.ErrAbsent {
		t.Fatalf("P6: a Get is %d with what nobody put:\n%s", int(c.Status), text)
	}
}

// judgeLost: P9.
func (k *careful) judgeLost() {
	k.t.Helper()
	a, _, _ := strings.Cut(k.c.State(), "\ndatagram")
	b, _, _ := strings.Cut(k.lossy.State(), "\ndatagram")
	f, l := k.c.Flight(), k.lossy.Flight()
	if a != b || len(f) != len(l) || !sameEvents(k.c.History(), k.lossy.History()) {
		k.t.Fatalf("P9: with spoilt datagrams\n%s, with lost ones\n%s", k.c.State(), k.lossy.State())
	}
	for i, spoilt := range k.spoilt {
		if !spoilt && fmt.Sprint(f[i]) != fmt.Sprint(l[i]) {
			k.t.Fatalf("P9: datagram %d is %v, with lost ones %v", i, f[i], l[i])
		}
		if _, e := frame.Decode(f[i].Data); spoilt == (e == api.OK) {
			k.t.Fatalf("P9: spoilt %v, Decode of %x is %d", spoilt, f[i].Data, int(e))
		}
	}
}

// judgeHeld: P10 of one server.
func (k *careful) judgeHeld(i int) {
	k.t.Helper()
	h, e := k.c.Table(i)
	if e != api.OK {
		return
	}
	entries := 0
	for _, x := range h {
		entries += len(x.Entries)
		k.judgeKey(i, x)
	}
	slots, current, _ := k.c.Slots(i)
	_, us, _, why, _, e := record.Scan(slots[current])
	if e != api.OK || why != api.OK || len(us) < entries {
		k.t.Fatalf("P10: server %d has a log of %d updates for %d entries: %d, %d", i, len(us), entries, int(e), int(why))
	}
	d := k.c.Copy()
	do(k.t, d, die(i, 0), small(i))
	slots, current, _ = d.Slots(i)
	if _, us, _, _, _, _ := record.Scan(slots[current]); len(us) != entries {
		k.t.Fatalf("P10: made small the log of server %d has %d updates for %d entries", i, len(us), entries)
	}
}

func (k *careful) judgeKey(i int, h api.Held) {
	k.t.Helper()
	var fins []api.Tag
	for _, x := range h.Entries {
		if x.Fin {
			fins = append(fins, x.Tag)
		}
	}
	if len(fins)-1 > k.p.c.Delta {
		k.t.Fatalf("P10: server %d has %d finalized tags of %q", i, len(fins), h.Key)
	}
	for _, x := range h.Entries {
		if len(fins)-1 == k.p.c.Delta && above(fins[0], x.Tag) {
			k.t.Fatalf("P10: server %d has %v of %q, which is below the floor %v", i, x.Tag, h.Key, fins[0])
		}
		if !x.Has {
			continue
		}
		value, there := k.values[h.Key+" "+tagText(x.Tag)]
		size := (len(value) + 4 + k.p.c.K - 1) / k.p.c.K
		if !there || len(x.Data) != size || !bytes.Equal(x.Data, fragment(k.p.c, value, i)) {
			k.t.Fatalf("P10: server %d has %x of %q, %v, whose value is %q, %v", i, x.Data, h.Key, x.Tag, value, there)
		}
		k.n["fragments"]++
	}
}

// TestWhole: scripts in which all goes wrong that may, looked at again and again.
func TestWhole(t *testing.T) {
	r := rand.New(rand.NewPCG(22, 4))
	n := seen{}
	for run := range 500 {
		k := newCareful(t, drawConfig(r), 1+r.IntN(4))
		k.n = n
		m := wild()
		m.stops = run % 2
		if run%3 == 0 {
			m = calm()
			m.doubles, m.spoils = 4, 4
		}
		m.keys = m.keys[:1+run%2]
		s := &script{Rand: r, mood: m, p: k.p}
		for range 1 + r.IntN(4) {
			for range r.IntN(250) {
				for _, x := range s.next() {
					k.step(x)
				}
			}
			k.judge()
		}
		n.look(k.p)
	}
	n.atLeast(t, 300, "event 2 true 0", "event 2 false 0", "event 2 false 76", "linear", "spoilt", "fragments")
	n.atLeast(t, 50, "open and read", "cancel behind the choice")
	t.Log(n)
}

// TestLongHistories: few steps go wrong, so that many operations come to their end.
func TestLongHistories(t *testing.T) {
	r := rand.New(rand.NewPCG(22, 5))
	n := seen{}
	for range 40 {
		config := drawConfig(r)
		c := made(t, config, 3)
		m := calm()
		m.ticks = 1
		s := &script{Rand: r, mood: m, p: newPaper(config, 3)} // a paper that nothing is told: all steps fit it
		for range 4000 {
			for _, x := range s.next() {
				c.Do(x)
			}
			if r.IntN(200) == 0 {
				i := r.IntN(config.N)
				do(t, c, crash(i, r.IntN(5), r.IntN(9)), start(i))
			}
		}
		judgeHistory(t, c.History(), n)
		for _, e := range c.History() {
			if e.Kind == api.Return {
				n["returns"]++
			}
		}
	}
	n.atLeast(t, 3000, "returns")
	t.Log(n)
}

// TestEachSpoil: whatever burst is in a datagram in flight, and wherever it is cut, it vanishes when it is delivered.
func TestEachSpoil(t *testing.T) {
	c := made(t, api.Config{N: 2, K: 1}, 2)
	do(t, c, put(1, "k", "x"))
	far(t, c)
	do(t, c, put(1, "k", "value"), get(2, "k"))
	met := map[byte]bool{}
	for range 60 {
		for i, p := range c.Flight() {
			if met[p.Data[0]] {
				continue
			}
			met[p.Data[0]] = true
			vanish := func(s api.Step) {
				t.Helper()
				a, b := c.Copy(), c.Copy()
				es := do(t, a, s, deliver(i))
				do(t, b, api.Step{Kind: api.SDrop, A: i})
				if len(es) != 0 || a.State() != b.State() {
					t.Fatalf("P9: a datagram of kind %d with %+v does not vanish", p.Data[0], s)
				}
			}
			for size := range p.Data {
				vanish(cut(i, size))
			}
			for bit := range 8 * len(p.Data) {
				for _, pattern := range []int{1, 3, 0xffffffff, 0x80000001, 0x12345679, -1} {
					vanish(burst(i, bit, pattern))
				}
			}
			a, b := c.Copy(), c.Copy()
			do(t, a, burst(i, 8*len(p.Data), 0xffffffff), cut(i, len(p.Data)), burst(i, 0, 0), cut(i, 1<<40), burst(i, 1<<60, 1), deliver(i))
			do(t, b, deliver(i))
			if a.State() != b.State() {
				t.Errorf("P9: what spoils nothing does")
			}
		}
		if len(c.Flight()) > 0 {
			do(t, c, deliver(0))
		}
	}
	if len(met) != 8 {
		t.Errorf("the test says little: kinds %v", met)
	}
}

// TestExampleTwo: example 4 of the whole: two clients put at once.
func TestExampleTwo(t *testing.T) {
	for _, first := range []int{1, 2} {
		c := made(t, api.Config{N: 1, K: 1}, 3)
		do(t, c, put(1, "k", "one"), put(2, "k", "two"), deliver(0), deliver(0), deliver(0), deliver(0))
		lineIs(t, c, "client 1 1 6b:1 put 6b 6f6e65 2 1.1 0.0 -")
		lineIs(t, c, "client 2 1 6b:1 put 6b 74776f 2 1.2 0.0 -")
		for _, id := range []int{first, 3 - first} {
			for _, _, _, _, _, e := c.Now(id); e == api.OK; _, _, _, _, _, e = c.Now(id) {
				at := slices.IndexFunc(c.Flight(), func(p api.Packet) bool {
					return p.To == api.Node{Kind: api.NClient, Id: id} || p.From == api.Node{Kind: api.NClient, Id: id}
				})
				do(t, c, deliver(at))
			}
		}
		do(t, c, get(3, "k"))
		is(t, far(t, c), api.Event{Kind: api.Return, Client: 3, Op: 1, Key: "k", Value: []byte("two"), Tag: g(1, 2)})
	}
}

// TestExampleCancel: example 5 of the whole: a Put is cancelled behind its Pre, and behind its first Fin.
func TestExampleCancel(t *testing.T) {
	c := made(t, api.Config{N: 3, K: 1}, 2)
	do(t, c, put(1, "k", "x"))
	for len(c.Flight()) > 0 && c.Flight()[0].Data[0] < api.Pre {
		do(t, c, deliver(0))
	}
	for c.Flight()[0].Data[0] != api.Pre {
		do(t, c, deliver(0))
	}
	do(t, c, deliver(0))
	is(t, one(t, c, cancel(1)), api.Event{Kind: api.Cancel, Client: 1, Op: 1, Put: true, Key: "k", Tag: g(1, 1)})
	for len(c.Flight()) > 0 {
		do(t, c, api.Step{Kind: api.SDrop})
	}
	do(t, c, get(2, "k"))
	if e := far(t, c); e.Status != api.ErrAbsent {
		t.Errorf("P6: behind a Put that was cancelled the Get is %v", e)
	}
	empty(t, c)
	do(t, c, put(1, "k", "y"))
	for c.Flight()[0].Data[0] != api.Fin {
		do(t, c, deliver(0))
	}
	lineIs(t, c, "client 1 2 6b:2 put 6b 79 3 2.1 0.0 -")
	do(t, c, deliver(0), cancel(1), get(2, "k"))
	if e := far(t, c); e.Status != api.OK || string(e.Value) != "y" || e.Tag != g(2, 1) {
		t.Errorf("P6: behind a Put that was cancelled behind a Fin the Get is %v", e)
	}
	judgeHistory(t, c.History(), seen{})
}

// TestExampleThrown: example 6 of the whole: what a Get asks for is thrown away meanwhile.
func TestExampleThrown(t *testing.T) {
	c := made(t, api.Config{N: 1, K: 1}, 2)
	do(t, c, put(1, "k", "old"))
	far(t, c)
	do(t, c, get(2, "k"), deliver(0), deliver(0))
	lineIs(t, c, "client 2 1 - get 6b 2 1.1 0.0 -")
	do(t, c, put(1, "k", "new"))
	for range 6 {
		do(t, c, deliver(1)) // the Read waits
	}
	if got := holds(t, c, 0); got != "k 2.1+!;" {
		t.Fatalf("P10: the server holds %q", got)
	}
	do(t, c, deliver(0), deliver(0))
	lineIs(t, c, "client 2 1 - get 6b 2 2.1 0.0 -")
	if got, want := messages(t, c), "c2-s0 7/2 op 1 k 2.1 0.0 false ; "; got != want {
		t.Errorf("P22.2: in flight are %s, want %s", got, want)
	}
	is(t, far(t, c), api.Event{Kind: api.Return, Client: 2, Op: 1, Key: "k", Value: []byte("new"), Tag: g(2, 1)})
}

// TestMany: as many servers, clients and bytes as there may be.
func TestMany(t *testing.T) {
	for _, config := range []api.Config{{N: 255, K: 1}, {N: 255, K: 128}, {N: 255, K: 255}} {
		c := made(t, config, 255)
		value := bytes.Repeat([]byte("0123456789abcdef"), 16)
		key := strings.Repeat("\xff", 64)
		do(t, c, api.Step{Kind: api.SPut, A: 255, Key: key, Value: value})
		if e := far(t, c); e.Status != api.OK || e.Tag != g(1, 255) {
			t.Errorf("P22.2: the Put is %v", e)
		}
		do(t, c, get(254, key))
		if e := far(t, c); e.Status != api.OK || !bytes.Equal(e.Value, value) || e.Tag != g(1, 255) {
			t.Errorf("P22.2: the Get is %v", e)
		}
		if d := c.Copy(); d.State() != c.State() {
			t.Errorf("P22.5: the copy's state is another")
		}
	}
	c := made(t, api.Config{N: 1, K: 1}, 1)
	value := bytes.Repeat([]byte{0xfe}, api.MaxValue)
	do(t, c, api.Step{Kind: api.SPut, A: 1, Key: strings.Repeat("k", 64), Value: value})
	if e := far(t, c); e.Status != api.OK {
		t.Errorf("P22.2: the Put of the longest value is %d", int(e.Status))
	}
	do(t, c, get(1, strings.Repeat("k", 64)))
	if e := far(t, c); e.Status != api.OK || !bytes.Equal(e.Value, value) {
		t.Errorf("P22.2: the Get of the longest value is %d", int(e.Status))
	}
}

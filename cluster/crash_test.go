package cluster_test

import (
	"fmt"
	"math"
	"math/rand/v2"
	"slices"
	"testing"

	"sherd/api"
	"sherd/cluster"
	"sherd/frame"
	"sherd/record"
	"sherd/table"
)

// holds tells a server's table: tags of each key, + with a fragment, ! if finalized.
func holds(t *testing.T, c *cluster.Cluster, server int) string {
	t.Helper()
	h, e := c.Table(server)
	if e != api.OK {
		t.Fatalf("P22.3: Table(%d): %d", server, int(e))
	}
	s := ""
	for _, k := range h {
		s += k.Key
		for _, x := range k.Entries {
			s += " " + tagText(x.Tag)
			if x.Has {
				s += "+"
			}
			if x.Fin {
				s += "!"
			}
		}
		s += ";"
	}
	return s
}

// TestExampleCrash: example 5.
func TestExampleCrash(t *testing.T) {
	c := made(t, api.Config{N: 3, K: 1}, 1)
	do(t, c, put(1, "k", "x"))
	far(t, c)
	before, slots := holds(t, c, 0), line(c, "server 0")
	if es := do(t, c, crash(0)); len(es) != 0 || c.Up(0) {
		t.Errorf("P22.2: SCrash brings %v, Up %v", es, c.Up(0))
	}
	if got, want := line(c, "server 0"), "server 0 down"+slots[len("server 0 up"):]; got != want {
		t.Errorf("P22.4: a server that is down is %q, want %q", got, want)
	}
	refused(t, c, crash(0), api.ErrDown)
	do(t, c, get(1, "k"))
	sent := len(c.Flight())
	do(t, c, deliver(sent-3))
	if len(c.Flight()) != sent-1 {
		t.Errorf("P22.2: what comes to a server that is down does not vanish: %s", messages(t, c))
	}
	do(t, c, start(0))
	if got := holds(t, c, 0); got != before || line(c, "server 0") != slots || !c.Up(0) {
		t.Errorf("P22.2: behind its start the server holds %s, want %s", got, before)
	}
	refused(t, c, start(0), api.ErrUp)
}

// TestExampleDie: example 6, and what each list means.
func TestExampleDie(t *testing.T) {
	for _, x := range []struct {
		b    int
		l    []int
		line string // what the state tells
		dies bool
		want string // what lasts
	}{
		{2, []int{1, 0}, " stop 2 1 0", true, "k 1.1+;"}, {2, []int{1}, " stop 2 1 -", true, "k 1.1+;"}, {2, []int{-1}, " stop 2 1 -", true, "k 1.1+;"}, {2, []int{math.MinInt + 1}, " stop 2 1 -", true, "k 1.1+;"}, {2, []int{math.MaxInt}, " stop 2 1 -", true, "k 1.1+;"},
		{2, []int{0}, " stop 2 0 -", true, ""}, {2, nil, " stop 2 0 -", true, ""}, {2, []int{math.MinInt, 0, 0}, " stop 2 0 0,0", true, ""}, {2, []int{-2, 0, 1}, " stop 2 0 0,1", true, "k 1.1+;"}, {2, []int{0, 1}, " stop 2 0 1", true, ""}, {2, []int{0, 1, 1}, " stop 2 0 1,1", true, "k 1.1+;"}, {2, []int{4, 9, -1, 7}, " stop 2 0 9,-1,7", true, "k 1.1+;"}, {2, []int{0, 0, 0, 5}, " stop 2 0 0,0,5", true, ""},
		{1, []int{1}, " stop 1 1 -", true, ""}, {1, []int{1, 0, 1}, " stop 1 1 0,1", true, "k 1.1+;"}, {1, []int{0, 0, 1}, " stop 1 0 0,1", true, ""},
		{3, []int{1}, " stop 1 1 -", false, "k 1.1+;"}, {math.MaxInt, nil, " stop 9223372036854775805 0 -", false, "k 1.1+;"}, {0, []int{1}, "", false, "k 1.1+;"},
	} {
		c := made(t, api.Config{N: 3, K: 1}, 1)
		do(t, c, put(1, "k", "x"))
		for len(c.Flight()) > 0 && c.Flight()[0].Data[0] < api.Pre {
			do(t, c, deliver(0))
		}
		plain := line(c, "server 2")
		do(t, c, die(2, x.b, x.l...))
		if got := line(c, "server 2"); x.dies && got != plain+x.line {
			t.Fatalf("P22.4: armed by %d, %v the server is %q, want %q behind it", x.b, x.l, got, x.line)
		}
		at := slices.IndexFunc(c.Flight(), func(p api.Packet) bool { return p.To.Kind == api.NServer && p.To.Id == 2 })
		n := len(c.Flight())
		do(t, c, deliver(at))
		if got := line(c, "server 2"); !x.dies {
			if len(c.Flight()) != n || !c.Up(2) || !matches(got, x.line) {
				t.Errorf("P22.2: SDie with %d, %v: %q, want %q at its end", x.b, x.l, got, x.line)
			}
			do(t, c, crash(2))
		} else if len(c.Flight()) != n-1 || c.Up(2) || !matches(got, "") {
			t.Errorf("P22.2: SDie with %d, %v: up %v, %d in flight, %q", x.b, x.l, c.Up(2), len(c.Flight()), got)
		}
		do(t, c, start(2))
		if got := holds(t, c, 2); got != x.want || !matches(line(c, "server 2"), "") {
			t.Errorf("P22.2: SDie with %d, %v: behind it the server holds %q, want %q; %q", x.b, x.l, got, x.want, line(c, "server 2"))
		}
		do(t, c, tick(1))
		if e := far(t, c); e.Status != api.OK || e.Tag != g(1, 1) {
			t.Errorf("P22.2: behind it the Put is %v", e)
		}
	}
}

// matches tells whether a server's line ends so, behind the six words that each has.
func matches(line, end string) bool {
	at := 0
	for range 6 {
		for at++; at < len(line) && line[at] != ' '; at++ {
		}
	}
	return at <= len(line) && line[at:] == end
}

// TestArmed: what is armed is counted down by acts, is forgotten by a crash and by another SDie, and fires in the making small too.
func TestArmed(t *testing.T) {
	config := api.Config{N: 1, K: 1}
	c := made(t, config, 1)
	ends := func(want string) {
		t.Helper()
		if got := line(c, "server 0"); !matches(got, want) {
			t.Errorf("P22.4: the server's line is %q, want %q at its end", got, want)
		}
	}
	do(t, c, die(0, 20, 3, 4, 5))
	ends(" stop 20 1 4,5")
	refused(t, c, die(0, -1, 1), api.ErrArg)
	do(t, c, put(1, "k", "x"))
	far(t, c)
	ends(" stop 16 1 4,5")
	do(t, c, get(1, "k"))
	far(t, c)
	ends(" stop 16 1 4,5")
	do(t, c, small(0))
	ends(" stop 12 1 4,5")
	do(t, c, die(0, 7))
	ends(" stop 7 0 -")
	do(t, c, die(0, 0, 1, 2))
	ends("")
	do(t, c, die(0, 3, 1, 2), crash(0), start(0))
	ends("")
	for range 3 {
		do(t, c, small(0))
	}
	if !c.Up(0) {
		t.Errorf("P22.2: what was armed is not forgotten by a crash")
	}
	for b := 1; b <= 4; b++ {
		for _, l := range [][]int{{0}, {1}, {0, 1, 1}, {1, 0, 2, 0, 2}} {
			d := c.Copy()
			before := holds(t, d, 0)
			if es := do(t, d, die(0, b, l...), small(0)); len(es) != 0 || d.Up(0) {
				t.Errorf("P22.2: SCompact goes on though the disk stops at its act %d", b)
			}
			do(t, d, start(0))
			if got := holds(t, d, 0); got != before {
				t.Errorf("P8: behind a stop at act %d of the making small, with %v, the server holds %q, want %q", b, l, got, before)
			}
		}
	}
	do(t, c, die(0, 5, 1), small(0))
	ends(" stop 1 1 -")
}

// TestSmall: behind SCompact the log has one update for each entry, and a log that grew is made small by itself (DOC.md, example 10).
func TestSmall(t *testing.T) {
	c := made(t, api.Config{N: 1, K: 1}, 1)
	log := func() int {
		t.Helper()
		slots, current, _ := c.Slots(0)
		_, us, _, why, _, e := record.Scan(slots[current])
		if e != api.OK || why != api.OK {
			t.Fatalf("P22.3: the slot has no whole log: %d, %d", int(e), int(why))
		}
		return len(us)
	}
	for i := range 9 {
		do(t, c, put(1, "k", fmt.Sprint("value ", i)))
		far(t, c)
		if got := log(); got != 2*(i+1) {
			t.Errorf("P10: behind %d Puts the log has %d updates", i+1, got)
		}
	}
	d := c.Copy()
	do(t, d, small(0))
	slots, current, _ := d.Slots(0)
	if _, us, _, _, _, _ := record.Scan(slots[current]); len(us) != 1 || us[0].Kind != api.UEntry || current != 0 {
		t.Errorf("P10: behind SCompact the log is %v in slot %d", us, current)
	}
	do(t, c, put(1, "k", "the tenth"))
	far(t, c)
	if got := log(); got != 1 { // behind the Fin, the twentieth update, there is one entry, so that 18 may be
		t.Errorf("P10: the log has %d updates, and was not made small", got)
	}
}

// ledger is what one server was handed since it was started last, as far as that changed it.
type ledger struct {
	base  []api.Update // its table at the start
	since []api.Update
	stood int // how many of these stood when it last answered
	down  bool
}

// updatesOf is what a server holds, as updates.
func updatesOf(h []api.Held) []api.Update {
	var us []api.Update
	for _, k := range h {
		for _, x := range k.Entries {
			us = append(us, api.Update{Kind: api.UEntry, Key: k.Key, Entry: x})
		}
	}
	return us
}

func (l *ledger) table(delta, n int) *table.Table {
	b, _ := table.New(delta)
	for _, u := range slices.Concat(l.base, l.since[:n]) {
		b.Apply(u)
	}
	return b
}

// bring is the update of a message, if it would change the table.
func (l *ledger) bring(delta int, m api.Message) {
	u := api.Update{Kind: api.UFin, Key: m.Key, Entry: api.Entry{Tag: m.Tag}}
	switch m.Kind {
	case api.Pre:
		u.Kind, u.Entry.Data = api.UPre, m.Data
	case api.Fin, api.Read:
	default:
		return
	}
	if would, _ := l.table(delta, len(l.since)).Would(u); would {
		l.since = append(l.since, u)
	}
}

// witness has a ledger of each server of a cluster.
type witness struct {
	t       *testing.T
	c       *cluster.Cluster
	delta   int
	servers []ledger
	starts  int
	lost    int // starts behind which some update was lost that nobody had been answered
}

func newWitness(t *testing.T, c *cluster.Cluster) *witness {
	config, _ := c.Config()
	return &witness{t: t, c: c, delta: config.Delta, servers: make([]ledger, config.N)}
}

// do does a step, and writes down what it brings a server.
func (w *witness) do(s api.Step) ([]api.Event, api.Errno) {
	w.t.Helper()
	flight := w.c.Flight()
	var to *ledger
	if s.Kind == api.SDeliver && len(flight) > 0 {
		p := flight[mod(s.A, len(flight))]
		if m, e := frame.Decode(p.Data); e == api.OK && p.To.Kind == api.NServer && w.c.Up(p.To.Id) && !p.Lost {
			to = &w.servers[p.To.Id]
			to.bring(w.delta, m)
		}
	}
	es, e := w.c.Do(s)
	if to != nil && len(w.c.Flight()) == len(flight) {
		to.stood = len(to.since)
	}
	w.look()
	return es, e
}

func (w *witness) look() {
	w.t.Helper()
	for i := range w.servers {
		l := &w.servers[i]
		h, e := w.c.Table(i)
		switch {
		case e == api.ErrDown:
			l.down = true
		case l.down:
			w.started(i, h)
		case fmt.Sprint(h) != fmt.Sprint(l.table(w.delta, len(l.since)).All()):
			w.t.Fatalf("P8: server %d holds %v, want %v", i, h, l.table(w.delta, len(l.since)).All())
		}
	}
}

// started: a server that was started has a beginning of its updates, and all that stood when it answered.
func (w *witness) started(i int, h []api.Held) {
	w.t.Helper()
	l := &w.servers[i]
	w.starts++
	for n := len(l.since); n >= l.stood; n-- {
		if fmt.Sprint(h) == fmt.Sprint(l.table(w.delta, n).All()) {
			if n < len(l.since) {
				w.lost++
			}
			*l = ledger{base: updatesOf(h)}
			return
		}
	}
	w.t.Fatalf("P8: server %d is started with %v; it began with %v, its updates were %v, %d of which stood", i, h, l.base, l.since, l.stood)
}

// TestWhatLasts: whatever crashes, a server that is started has a beginning of its updates, all that was answered in it.
func TestWhatLasts(t *testing.T) {
	r := rand.New(rand.NewPCG(22, 3))
	starts, lost := 0, 0
	for range 200 {
		config := api.Config{N: 1 + r.IntN(3), K: 1, Delta: r.IntN(2)}
		a := newPair(t, config, 1+r.IntN(3))
		w := newWitness(t, a.c)
		m := wild()
		m.dies, m.smalls, m.starts = 6, 2, 20
		s := &script{Rand: r, mood: m, p: a.p}
		for range r.IntN(900) {
			for _, x := range s.next() {
				w.do(x)
				a.p.do(x)
			}
		}
		starts, lost = starts+w.starts, lost+w.lost
	}
	if starts < 1000 || lost < 200 {
		t.Errorf("the test says little: %d starts, %d of them with something lost", starts, lost)
	}
	t.Log(starts, lost)
}

// TestEachAct: the machine stops at each act of a long script, ahead of it or behind it, whatever lasts; behind its start all goes on.
func TestEachAct(t *testing.T) {
	puts := 12
	lists := [][]int{{0}, {1}, {0, 1, 1, 1}, {0, 0, 2, 0, 2}, {0, 0, 5, 0, 3}, {1, 0, 7, 1, 9}}
	small := 0
	for b := 1; b <= 4*puts+4; b++ {
		for _, l := range lists {
			c := made(t, api.Config{N: 2, K: 1}, 1)
			w := newWitness(t, c)
			w.do(die(1, b, l...))
			for i := range puts {
				w.do(put(1, "k", fmt.Sprint("value ", i)))
				for n := 0; n < 200; n++ {
					if es, _ := w.do(deliver(0)); len(es) > 0 {
						break
					}
					if !c.Up(1) {
						if _, current, _ := c.Slots(1); current == 0 && b > 4 {
							small++
						}
						w.do(start(1))
						w.do(tick(1))
					}
				}
				if es := c.History(); es[len(es)-1].Kind != api.Return || es[len(es)-1].Status != api.OK {
					t.Fatalf("P8: stopped at %d with %v, Put %d does not end: %s", b, l, i, c.State())
				}
			}
			if w.starts != 1 {
				t.Fatalf("P22.2: armed to stop at %d with %v the server was started %d times", b, l, w.starts)
			}
			w.do(get(1, "k"))
			for _, s := range []api.Step{crash(0, 1), crash(1), start(0), start(1), tick(1)} {
				w.do(s)
			}
			if e := far(t, c); e.Status != api.OK || string(e.Value) != fmt.Sprint("value ", puts-1) {
				t.Errorf("P8: behind all that the Get is %v", e)
			}
		}
	}
	if small < 3 {
		t.Errorf("the test says little: %d stops behind a making small", small)
	}
}

// TestAllCrash: all servers crash behind a Put that is OK, whatever their disks keep (DOC.md, example 9).
func TestAllCrash(t *testing.T) {
	for _, config := range []api.Config{{N: 3, K: 2}, {N: 1, K: 1}, {N: 5, K: 3, Delta: 1}, {N: 4, K: 4}} {
		for _, l := range [][]int{nil, {0}, {1, 1, 1}, {-1, -1, -1, -1}} {
			c := made(t, config, 2)
			for _, value := range []string{"old", "a value"} {
				do(t, c, put(1, "k", value))
				far(t, c)
			}
			for i := range config.N {
				do(t, c, crash(i, l...))
			}
			if _, e := c.Do(get(2, "k")); e != api.OK {
				t.Fatal(e)
			}
			empty(t, c) // nobody is there
			for i := range config.N {
				do(t, c, start(i))
			}
			do(t, c, tick(2))
			if e := far(t, c); e.Status != api.OK || string(e.Value) != "a value" || e.Tag != g(2, 1) {
				t.Errorf("P8: of %v behind a crash of all with %v the Get is %v", config, l, e)
			}
		}
	}
}

// TestExampleSync: example 7 of the whole: the machine stops at the Sync of a Pre, the client asks once more.
func TestExampleSync(t *testing.T) {
	for _, x := range []struct {
		l    []int
		want string
	}{{[]int{0, 0, 1}, "k 1.1+;"}, {[]int{0, 0, 0, 3}, ""}} {
		c := made(t, api.Config{N: 1, K: 1}, 1)
		do(t, c, die(0, 2, x.l...), put(1, "k", "x"))
		empty(t, c)
		if c.Up(0) {
			t.Fatalf("P22.2: the machine does not stop")
		}
		do(t, c, start(0))
		if got := holds(t, c, 0); got != x.want {
			t.Errorf("P8: with %v the server holds %q, want %q", x.l, got, x.want)
		}
		do(t, c, tick(1), deliver(0))
		if got, want := messages(t, c), "s0-c1 4/1 op 1 k 1.1 0.0 false ; "; got != want {
			t.Errorf("P22.2: asked once more it answers %s, want %s", got, want)
		}
		if got := holds(t, c, 0); got != "k 1.1+;" {
			t.Errorf("P8: the server holds %q", got)
		}
	}
}

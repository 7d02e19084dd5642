package cluster_test

import (
	"bytes"
	"fmt"
	"math"
	"strings"
	"testing"

	"sherd/api"
	"sherd/cluster"
	"sherd/frame"
	"sherd/record"
)

func put(a int, key, value string) api.Step {
	return api.Step{Kind: api.SPut, A: a, Key: key, Value: []byte(value)}
}

func get(a int, key string) api.Step { return api.Step{Kind: api.SGet, A: a, Key: key} }

func tick(a int) api.Step { return api.Step{Kind: api.STick, A: a} }

func cancel(a int) api.Step { return api.Step{Kind: api.SCancel, A: a} }

func stop(a int) api.Step { return api.Step{Kind: api.SStop, A: a} }

func deliver(a int) api.Step { return api.Step{Kind: api.SDeliver, A: a} }

func lose(a int) api.Step { return api.Step{Kind: api.SLose, A: a} }

func burst(a, b int, l ...int) api.Step { return api.Step{Kind: api.SBurst, A: a, B: b, L: l} }

func cut(a, b int) api.Step { return api.Step{Kind: api.SCut, A: a, B: b} }

func crash(a int, l ...int) api.Step { return api.Step{Kind: api.SCrash, A: a, L: l} }

func start(a int) api.Step { return api.Step{Kind: api.SStart, A: a} }

func die(a, b int, l ...int) api.Step { return api.Step{Kind: api.SDie, A: a, B: b, L: l} }

func small(a int) api.Step { return api.Step{Kind: api.SCompact, A: a} }

func g(count int64, client int) api.Tag { return api.Tag{Count: count, Client: client} }

// do does steps that are all taken: the last one's events.
func do(t *testing.T, c *cluster.Cluster, steps ...api.Step) []api.Event {
	t.Helper()
	var es []api.Event
	for i, s := range steps {
		l, e := c.Do(s)
		if e != api.OK {
			t.Fatalf("P22.2: step %d, %+v: %d", i, s, int(e))
		}
		es = l
	}
	return es
}

// refused: the step is answered so, brings no event, and changes nothing.
func refused(t *testing.T, c *cluster.Cluster, s api.Step, want api.Errno) {
	t.Helper()
	before, events := c.State(), len(c.History())
	if l, e := c.Do(s); e != want || len(l) != 0 {
		t.Errorf("P22.2: %+v: %v, %d, want %d", s, l, int(e), int(want))
	}
	if c.State() != before || len(c.History()) != events {
		t.Errorf("P22.2: %+v is refused and changes something", s)
	}
}

// one is the one event of a step.
func one(t *testing.T, c *cluster.Cluster, s api.Step) api.Event {
	t.Helper()
	es := do(t, c, s)
	if len(es) != 1 {
		t.Fatalf("P22.2: %+v brings %v, want one event", s, es)
	}
	return es[0]
}

func is(t *testing.T, got, want api.Event) {
	t.Helper()
	if !sameEvents([]api.Event{got}, []api.Event{want}) {
		t.Errorf("P22.2: the event is %+v, want %+v", got, want)
	}
}

// line is a line of the state.
func line(c *cluster.Cluster, begins string) string {
	for _, l := range strings.Split(c.State(), "\n") {
		if strings.HasPrefix(l, begins) {
			return l
		}
	}
	return ""
}

func lineIs(t *testing.T, c *cluster.Cluster, want string) {
	t.Helper()
	words := strings.Fields(want)
	if got := line(c, words[0]+" "+words[1]+" "); got != want {
		t.Errorf("P22.4: the line is %q, want %q", got, want)
	}
}

// far delivers what is in flight, the first one each time, until an event comes.
func far(t *testing.T, c *cluster.Cluster) api.Event {
	t.Helper()
	for range 5000 {
		if es := do(t, c, deliver(0)); len(es) > 0 {
			return es[0]
		}
	}
	t.Fatal("P22.2: nothing comes of 5000 deliveries")
	return api.Event{}
}

// empty delivers until nothing is in flight.
func empty(t *testing.T, c *cluster.Cluster) {
	t.Helper()
	for len(c.Flight()) > 0 {
		do(t, c, deliver(0))
	}
}

// messages are what is in flight, as messages.
func messages(t *testing.T, c *cluster.Cluster) string {
	t.Helper()
	var b strings.Builder
	for _, p := range c.Flight() {
		m, e := frame.Decode(p.Data)
		if e != api.OK {
			t.Fatalf("P22.2: a datagram %x in flight is no frame", p.Data)
		}
		fmt.Fprintf(&b, "%c%d-%c%d %d/%d op %d %s %s %s %v %x; ", " sc"[p.From.Kind], p.From.Id, " sc"[p.To.Kind], p.To.Id, m.Kind, m.Client, m.Op, m.Key, tagText(m.Tag), tagText(m.Top), m.Has, m.Data)
	}
	return b.String()
}

func TestNew(t *testing.T) {
	for _, x := range []struct {
		c       api.Config
		clients int
		e       api.Errno
	}{
		{api.Config{}, 0, api.ErrConfig}, {api.Config{N: 3, K: 4}, -1, api.ErrConfig}, {api.Config{N: 256, K: 1}, 256, api.ErrConfig}, {api.Config{N: 3, K: 1, Delta: -1}, 1, api.ErrConfig}, {api.Config{N: 3}, 1, api.ErrConfig},
		{api.Config{N: 3, K: 1}, -1, api.ErrArg}, {api.Config{N: 3, K: 1}, 256, api.ErrArg}, {api.Config{N: 3, K: 1}, math.MinInt, api.ErrArg}, {api.Config{N: 3, K: 1}, math.MaxInt, api.ErrArg},
		{api.Config{N: 3, K: 1}, 0, api.OK}, {api.Config{N: 1, K: 1, Delta: api.MaxDelta}, 255, api.OK}, {api.Config{N: 255, K: 255}, 1, api.OK}, {api.Config{N: 255, K: 1}, 255, api.OK},
	} {
		c, e := cluster.New(x.c, x.clients)
		if e != x.e || (c == nil) != (e != api.OK) {
			t.Errorf("P22.1: New(%v, %d): %v, %d, want %d", x.c, x.clients, c != nil, int(e), int(x.e))
		}
		if e == api.OK {
			(&pair{t: t, c: c, p: newPaper(x.c, x.clients)}).all()
		}
	}
}

// TestExampleState: the first example, byte by byte.
func TestExampleState(t *testing.T) {
	c := made(t, api.Config{N: 3, K: 1}, 1)
	want := "config 3 1 0 1\n"
	for i := range 3 {
		_, head, e := record.New(api.Head{Config: api.Config{N: 3, K: 1}, Server: i})
		if e != api.OK || len(head) != 9 {
			t.Fatal(e, head)
		}
		want += fmt.Sprintf("server %d up 1 - %x\n", i, head)
	}
	want += "client 1 0 -\n"
	if got := c.State(); got != want {
		t.Errorf("P22.4: a new cluster is\n%s, want\n%s", got, want)
	}
	if c, n := made(t, api.Config{N: 2, K: 2, Delta: 7}, 0).Config(); c != (api.Config{N: 2, K: 2, Delta: 7}) || n != 0 {
		t.Errorf("P22.3: Config is %v, %d", c, n)
	}
	if got := line(made(t, api.Config{N: 1, K: 1, Delta: api.MaxDelta}, 255), "config"); got != "config 1 1 4611686018427387903 255" {
		t.Errorf("P22.4: %q", got)
	}
}

// TestExamplePut: examples 2 and 3, and the Put to its end.
func TestExamplePut(t *testing.T) {
	c := made(t, api.Config{N: 3, K: 1}, 2)
	is(t, one(t, c, put(1, "k", "x")), api.Event{Kind: api.Invoke, Client: 1, Op: 1, Put: true, Key: "k", Value: []byte("x")})
	if got, want := messages(t, c), "c1-s0 1/1 op 1 k 0.0 0.0 false ; c1-s1 1/1 op 1 k 0.0 0.0 false ; c1-s2 1/1 op 1 k 0.0 0.0 false ; "; got != want {
		t.Fatalf("P22.2: in flight are %s, want %s", got, want)
	}
	refused(t, c, put(1, "k", "x"), api.ErrBusy)
	refused(t, c, put(1, "", "x"), api.ErrBusy)
	refused(t, c, get(1, "k"), api.ErrBusy)
	do(t, c, deliver(4))
	if got, want := messages(t, c), "c1-s0 1/1 op 1 k 0.0 0.0 false ; c1-s2 1/1 op 1 k 0.0 0.0 false ; s1-c1 2/1 op 1 k 0.0 0.0 false ; "; got != want {
		t.Fatalf("P22.2: in flight are %s, want %s", got, want)
	}
	spoilt := c.Copy()
	do(t, spoilt, burst(-1, 3, 1))
	if a, b := c.Flight()[2].Data, spoilt.Flight()[2].Data; a[0]^8 != b[0] || !bytes.Equal(a[1:], b[1:]) {
		t.Errorf("P22.2: a burst at bit 3 makes %x of %x", b, a)
	}
	before := line(spoilt, "client 1")
	if es := do(t, spoilt, deliver(2)); len(es) != 0 || len(spoilt.Flight()) != 2 || line(spoilt, "client 1") != before {
		t.Errorf("P22.2: a spoilt datagram does not vanish: %s", spoilt.State())
	}
	do(t, c, deliver(-1))
	lineIs(t, c, "client 1 1 - put 6b 78 1 0.0 0.0 1")
	do(t, c, deliver(0), deliver(0))
	do(t, c, deliver(1))
	lineIs(t, c, "client 1 1 6b:1 put 6b 78 2 1.1 0.0 -")
	if got, want := messages(t, c), "s0-c1 2/1 op 1 k 0.0 0.0 false ; c1-s0 3/1 op 1 k 1.1 0.0 false 0100000078; c1-s1 3/1 op 1 k 1.1 0.0 false 0100000078; c1-s2 3/1 op 1 k 1.1 0.0 false 0100000078; "; got != want {
		t.Fatalf("P22.2: in flight are %s, want %s", got, want)
	}
	do(t, c, deliver(0)) // the third Told: of another phase
	lineIs(t, c, "client 1 1 6b:1 put 6b 78 2 1.1 0.0 -")
	do(t, c, deliver(2), deliver(2))
	lineIs(t, c, "client 1 1 6b:1 put 6b 78 2 1.1 0.0 2")
	do(t, c, deliver(0), deliver(0))
	do(t, c, deliver(0))
	lineIs(t, c, "client 1 1 6b:1 put 6b 78 3 1.1 0.0 -")
	is(t, far(t, c), api.Event{Kind: api.Return, Client: 1, Op: 1, Put: true, Key: "k", Tag: g(1, 1)})
	lineIs(t, c, "client 1 1 6b:1")
	refused(t, c, cancel(1), api.ErrIdle)
	if es := c.History(); len(es) != 2 || es[0].Kind != api.Invoke || es[1].Kind != api.Return {
		t.Errorf("P22.3: the history is %v", es)
	}
}

// TestGet: how a Get's state is told, with its fragments.
func TestGet(t *testing.T) {
	c := made(t, api.Config{N: 3, K: 2}, 2)
	do(t, c, put(1, "k", "hello"))
	far(t, c)
	empty(t, c)
	is(t, one(t, c, get(2, "k")), api.Event{Kind: api.Invoke, Client: 2, Op: 1, Key: "k"})
	lineIs(t, c, "client 2 1 - get 6b 1 0.0 0.0 -")
	do(t, c, deliver(2), deliver(2))
	lineIs(t, c, "client 2 1 - get 6b 1 0.0 1.1 2")
	do(t, c, deliver(0), deliver(0), deliver(0), deliver(0))
	lineIs(t, c, "client 2 1 - get 6b 2 1.1 0.0 -")
	do(t, c, deliver(2), deliver(2))
	lineIs(t, c, fmt.Sprintf("client 2 1 - get 6b 2 1.1 1.1 2:%x", fragment(api.Config{N: 3, K: 2}, []byte("hello"), 2)))
	do(t, c, deliver(0), deliver(1))
	lineIs(t, c, fmt.Sprintf("client 2 1 - get 6b 2 1.1 1.1 0:%x,2:%x", fragment(api.Config{N: 3, K: 2}, []byte("hello"), 0), fragment(api.Config{N: 3, K: 2}, []byte("hello"), 2)))
	is(t, far(t, c), api.Event{Kind: api.Return, Client: 2, Op: 1, Key: "k", Value: []byte("hello"), Tag: g(1, 1)})
	do(t, c, get(2, "none"))
	is(t, far(t, c), api.Event{Kind: api.Return, Client: 2, Op: 2, Key: "none", Status: api.ErrAbsent})
	lineIs(t, c, "client 2 2 -")
}

// TestUsed: the counters of a client are told by their keys' bytes, its Gets' tags are not among them.
func TestUsed(t *testing.T) {
	c := made(t, api.Config{N: 1, K: 1}, 2)
	for _, key := range []string{"b", "a", "\xff", "ab", "b", "\x00"} {
		do(t, c, put(1, key, ""))
		far(t, c)
	}
	lineIs(t, c, "client 1 6 00:1,61:1,6162:1,62:2,ff:1")
	do(t, c, get(2, "b"))
	far(t, c)
	do(t, c, put(2, "b", ""), deliver(0), deliver(0))
	lineIs(t, c, "client 2 2 62:2 put 62 - 2 2.2 0.0 -")
	is(t, one(t, c, cancel(2)), api.Event{Kind: api.Cancel, Client: 2, Op: 2, Put: true, Key: "b", Tag: g(2, 2)})
	lineIs(t, c, "client 2 2 62:2")
	do(t, c, put(2, "b", ""))
	is(t, one(t, c, cancel(2)), api.Event{Kind: api.Cancel, Client: 2, Op: 3, Put: true, Key: "b"})
	do(t, c, get(2, "b"))
	empty(t, c)
	do(t, c, get(2, "b"), deliver(0), deliver(0))
	lineIs(t, c, "client 2 5 62:2 get 62 2 2.1 0.0 -")
	is(t, one(t, c, cancel(2)), api.Event{Kind: api.Cancel, Client: 2, Op: 5, Key: "b"})
	refused(t, c, cancel(2), api.ErrIdle)
}

// TestTicks: a tick asks once more those that have not answered.
func TestTicks(t *testing.T) {
	c := made(t, api.Config{N: 3, K: 1}, 2)
	do(t, c, tick(1))
	if len(c.Flight()) != 0 {
		t.Errorf("P22.2: a tick of an idle client sends %s", messages(t, c))
	}
	do(t, c, put(2, "k", "x"), deliver(1), deliver(2), tick(2))
	if got, want := messages(t, c), "c2-s0 1/2 op 1 k 0.0 0.0 false ; c2-s2 1/2 op 1 k 0.0 0.0 false ; c2-s0 1/2 op 1 k 0.0 0.0 false ; c2-s2 1/2 op 1 k 0.0 0.0 false ; "; got != want {
		t.Errorf("P22.2: in flight are %s, want %s", got, want)
	}
}

func TestStop(t *testing.T) {
	c := made(t, api.Config{N: 1, K: 1}, 1)
	do(t, c, put(1, "k", "x"), deliver(0), deliver(0))
	lineIs(t, c, "client 1 1 6b:1 put 6b 78 2 1.1 0.0 -")
	if es := do(t, c, stop(1)); len(es) != 0 || c.Live(1) {
		t.Errorf("P22.2: SStop brings %v, Live %v", es, c.Live(1))
	}
	lineIs(t, c, "client 1 stopped")
	for _, s := range []api.Step{put(1, "k", "x"), put(1, "", ""), get(1, "k"), cancel(1), tick(1), stop(1)} {
		refused(t, c, s, api.ErrDown)
	}
	do(t, c, deliver(0)) // its Pre comes all the same
	if h, _ := c.Table(0); len(h) != 1 || len(c.Flight()) != 1 {
		t.Errorf("P22.2: the Pre of a client that has stopped: %v, %d in flight", h, len(c.Flight()))
	}
	do(t, c, deliver(0))
	if len(c.Flight()) != 0 || len(c.History()) != 1 {
		t.Errorf("P22.2: what comes to a client that has stopped does not vanish")
	}
	refused(t, c, put(2, "k", "x"), api.ErrNode)
	refused(t, c, api.Step{Kind: api.SRound, B: 1}, api.ErrKind)
}

// TestErrors: each refusal, and which comes first.
func TestErrors(t *testing.T) {
	c := made(t, api.Config{N: 3, K: 1}, 2)
	for _, kind := range []int{0, -1, 16, 17, math.MinInt, math.MaxInt} {
		refused(t, c, api.Step{Kind: kind, A: -1, B: -1}, api.ErrKind)
	}
	for _, a := range []int{0, 3, -1, math.MinInt, math.MaxInt} {
		for _, kind := range []int{api.SPut, api.SGet, api.SCancel, api.STick, api.SStop} {
			refused(t, c, api.Step{Kind: kind, A: a}, api.ErrNode)
		}
	}
	for _, a := range []int{3, -1, math.MinInt, math.MaxInt} {
		for _, kind := range []int{api.SCrash, api.SStart, api.SDie, api.SCompact} {
			refused(t, c, api.Step{Kind: kind, A: a, B: -1}, api.ErrNode)
		}
	}
	for _, kind := range []int{api.SDeliver, api.SDrop, api.SDouble, api.SBurst, api.SCut, api.SLose} {
		refused(t, c, api.Step{Kind: kind, B: -1}, api.ErrNone)
	}
	long := string(make([]byte, api.MaxKey+1))
	refused(t, c, put(1, "", string(make([]byte, api.MaxValue+1))), api.ErrKey)
	refused(t, c, put(1, long, ""), api.ErrKey)
	refused(t, c, get(1, ""), api.ErrKey)
	refused(t, c, get(1, long), api.ErrKey)
	refused(t, c, put(1, "k", string(make([]byte, api.MaxValue+1))), api.ErrValue)
	refused(t, c, cancel(2), api.ErrIdle)
	refused(t, c, start(0), api.ErrUp)
	refused(t, c, die(0, -1), api.ErrArg)
	refused(t, c, die(0, math.MinInt, 1), api.ErrArg)
	do(t, c, crash(1))
	refused(t, c, crash(1), api.ErrDown)
	refused(t, c, die(1, -1), api.ErrDown)
	refused(t, c, die(1, 0), api.ErrDown)
	refused(t, c, small(1), api.ErrDown)
	do(t, c, get(1, "k"))
	refused(t, c, burst(0, -1, 1), api.ErrArg)
	refused(t, c, cut(0, -1), api.ErrArg)
	refused(t, c, burst(math.MaxInt, math.MinInt, 1), api.ErrArg)
	do(t, c, stop(1))
	refused(t, c, put(1, "", ""), api.ErrDown)
}

// TestWhatIsNotUsed: of a step that which its kind doesn't use is not looked at.
func TestWhatIsNotUsed(t *testing.T) {
	full := api.Step{A: 1, B: -7, Key: string(make([]byte, 99)), Value: make([]byte, api.MaxValue+9), L: []int{-3, 8}}
	for kind := api.SPut; kind <= api.SCompact; kind++ {
		a, b := made(t, api.Config{N: 3, K: 2}, 2), made(t, api.Config{N: 3, K: 2}, 2)
		x, y := full, api.Step{A: 1}
		switch kind {
		case api.SPut:
			x.Key, x.Value, y.Key, y.Value = "k", []byte("v"), "k", []byte("v")
		case api.SGet:
			x.Key, y.Key = "k", "k"
		case api.SBurst:
			x.B, y.B, y.L = 1, 1, []int{-3}
		case api.SCut:
			x.B, y.B = 4, 4
		case api.SCrash:
			y.L = x.L
		case api.SDie:
			x.B, y.B, y.L = 2, 2, x.L
		}
		x.Kind, y.Kind = kind, kind
		for _, c := range []*cluster.Cluster{a, b} {
			if kind > api.SGet {
				do(t, c, put(1, "k", "x"), deliver(0))
			}
			if kind == api.SStart {
				do(t, c, crash(1))
			}
		}
		es, e := a.Do(x)
		fs, f := b.Do(y)
		if e != f || e != api.OK || !sameEvents(es, fs) || a.State() != b.State() {
			t.Errorf("P22.2: %+v: %v, %d, and %+v: %v, %d\n%s\n%s", x, es, int(e), y, fs, int(f), a.State(), b.State())
		}
	}
}

// TestDatagrams: what may become of one, by its number modulo how many there are.
func TestDatagrams(t *testing.T) {
	fresh := func() *cluster.Cluster {
		c := made(t, api.Config{N: 3, K: 1}, 1)
		do(t, c, get(1, "k"))
		return c
	}
	ends := func(c *cluster.Cluster) string {
		s := ""
		for _, p := range c.Flight() {
			s += fmt.Sprintf("%d", p.To.Id)
			if p.Lost {
				s += "!"
			}
		}
		return s
	}
	for _, x := range []struct {
		kind int
		want [3]string
	}{{api.SDrop, [3]string{"12", "02", "01"}}, {api.SDouble, [3]string{"0120", "0121", "0122"}}, {api.SLose, [3]string{"0!12", "01!2", "012!"}}, {api.SDeliver, [3]string{"121", "021", "011"}}} {
		for a, at := range map[int]int{0: 0, 1: 1, 2: 2, 3: 0, 7: 1, -1: 2, -2: 1, -3: 0, -4: 2, math.MaxInt: mod(math.MaxInt, 3), math.MinInt: mod(math.MinInt, 3)} {
			c := fresh()
			do(t, c, api.Step{Kind: x.kind, A: a})
			if got := ends(c); got != x.want[at] {
				t.Errorf("P22.2: step %d with A %d: %s, want %s", x.kind, a, got, x.want[at])
			}
		}
	}
	for _, x := range []struct {
		l    []int
		want string
	}{{nil, "01"}, {[]int{0}, "01"}, {[]int{1}, "00"}, {[]int{0xfe}, "ff"}, {[]int{-1, 0}, "fe"}, {[]int{1 << 32}, "01"}, {[]int{1<<32 + 2, 1}, "03"}, {[]int{math.MinInt}, "01"}} {
		c := fresh()
		was := c.Flight()[1].Data
		do(t, c, burst(4, 0, x.l...))
		if got := c.Flight()[1].Data; fmt.Sprintf("%x", got[:1]) != x.want || len(got) != len(was) {
			t.Errorf("P22.2: SBurst with L %v makes %x of %x", x.l, got, was)
		}
	}
	c := fresh()
	do(t, c, cut(-2, 4), cut(0, 99), cut(2, 0), lose(2))
	if f := c.Flight(); len(f[1].Data) != 4 || len(f[0].Data) != 10 || len(f[2].Data) != 0 {
		t.Errorf("P22.2: SCut leaves %v", f)
	}
	if got := c.State(); !strings.Contains(got, "\ndatagram from c1 to s1 01010101\n") || !strings.HasSuffix(got, "\ndatagram from c1 to s2 - lost\n") {
		t.Errorf("P22.4: %s", got)
	}
	do(t, c, deliver(1), deliver(1))
	if len(c.Flight()) != 1 || len(c.History()) != 1 {
		t.Errorf("P22.2: a datagram that was cut, and one without bytes, do not vanish: %s", c.State())
	}
}

package client_test

import (
	"bytes"
	"fmt"
	"math"
	"math/rand/v2"
	"strings"
	"testing"

	"sherd/api"
	"sherd/client"
	"sherd/quorum"
)

var three = api.Config{N: 3, K: 1}

func g(count int64, client int) api.Tag { return api.Tag{Count: count, Client: client} }

func made(t *testing.T, c api.Config, id int) *client.Client {
	t.Helper()
	x, e := client.New(c, id)
	if x == nil || e != api.OK {
		t.Fatalf("L1: New of %v, %d is %v, %d", c, id, x, e)
	}
	return x
}

// text is a list of requests in one line: kind, server, and the tag, if there is one.
func text(l []api.Message) string {
	kinds := []string{"?", "Ask", "Told", "Pre", "Kept", "Fin", "Done", "Read", "Gave"}
	var words []string
	for _, m := range l {
		s := fmt.Sprint(kinds[m.Kind], m.Server)
		if m.Tag != g(0, 0) {
			s += fmt.Sprintf("@%d.%d", m.Tag.Count, m.Tag.Client)
		}
		words = append(words, s)
	}
	return strings.Join(words, " ")
}

// to addresses an answer to what the client has under way.
func to(c *client.Client, id int, m api.Message) api.Message {
	n := nowOf(c)
	m.Client, m.Op, m.Key = id, n.op, n.key
	return m
}

// says hands in an answer: what comes of it in one line.
func says(c *client.Client, id int, m api.Message) string {
	l, r, end := c.Handle(to(c, id, m))
	if !end {
		if !sameResult(r, api.Result{}) {
			return fmt.Sprint("a result without an end: ", r)
		}
		return text(l)
	}
	if len(l) != 0 {
		return "requests at the end: " + text(l)
	}
	return fmt.Sprintf("end %d %v %d %d.%d %s", r.Op, r.Put, int(r.Status), r.Tag.Count, r.Tag.Client, r.Value)
}

func told(server int, top api.Tag) api.Message {
	return api.Message{Kind: api.Told, Server: server, Top: top}
}

func kept(server int, tag api.Tag) api.Message {
	return api.Message{Kind: api.Kept, Server: server, Tag: tag}
}

func done(server int, tag api.Tag) api.Message {
	return api.Message{Kind: api.Done, Server: server, Tag: tag}
}

func gave(server int, tag, top api.Tag) api.Message {
	return api.Message{Kind: api.Gave, Server: server, Tag: tag, Top: top}
}

func with(m api.Message, data []byte) api.Message {
	m.Has, m.Data = true, data
	return m
}

// exchange is an answer and what shall come of it.
type exchange struct {
	m    api.Message
	want string
}

func talk(t *testing.T, c *client.Client, id int, lines ...exchange) {
	t.Helper()
	for i, x := range lines {
		if got := says(c, id, x.m); got != x.want {
			t.Fatalf("L1: answer %d, %+v: %q, want %q", i, x.m, got, x.want)
		}
	}
}

func isNow(t *testing.T, c *client.Client, want now) {
	t.Helper()
	if got := nowOf(c); got != want {
		t.Errorf("L1: Now is %+v, want %+v", got, want)
	}
}

func ticks(t *testing.T, c *client.Client, want string) {
	t.Helper()
	if got := text(c.Tick()); got != want {
		t.Errorf("L1: Tick is %q, want %q", got, want)
	}
}

// TestExamplePut: examples 1 to 3.
func TestExamplePut(t *testing.T) {
	c := made(t, three, 7)
	isNow(t, c, now{e: api.ErrIdle})
	op, l, e := c.Put("k", []byte("x"))
	want := []api.Message{{Kind: api.Ask, Client: 7, Op: 1, Key: "k"}, {Kind: api.Ask, Client: 7, Server: 1, Op: 1, Key: "k"}, {Kind: api.Ask, Client: 7, Server: 2, Op: 1, Key: "k"}}
	if op != 1 || e != api.OK || !sameMessages(l, want) {
		t.Fatalf("L1: Put is %d, %+v, %d", op, l, e)
	}
	isNow(t, c, now{1, true, "k", g(0, 0), 1, api.OK})
	if op, l, e := c.Get("k"); op != 0 || len(l) != 0 || e != api.ErrBusy {
		t.Errorf("L1: Get of a busy one is %d, %v, %d", op, l, e)
	}
	talk(t, c, 7, exchange{told(0, g(4, 9)), ""}, exchange{told(0, g(6, 1)), ""})
	_, _, _ = c.Handle(to(c, 7, told(0, g(4, 9)))) // the highest stays
	pres, r, end := c.Handle(to(c, 7, told(2, g(2, 2))))
	if end || !sameResult(r, api.Result{}) || text(pres) != "Pre0@6.7 Pre1@6.7 Pre2@6.7" {
		t.Fatalf("L1: behind phase 1 come %v, %v, %v", pres, r, end)
	}
	for i, m := range pres {
		want := api.Message{Kind: api.Pre, Client: 7, Server: i, Op: 1, Key: "k", Tag: g(6, 7), Data: []byte{1, 0, 0, 0, 'x'}}
		if !sameMessages([]api.Message{m}, []api.Message{want}) {
			t.Errorf("L1: a Pre is %+v, want %+v", m, want)
		}
	}
	isNow(t, c, now{1, true, "k", g(6, 7), 2, api.OK})

	talk(t, c, 7, exchange{kept(1, g(6, 7)), ""}, exchange{kept(0, g(6, 1)), ""})
	ticks(t, c, "Pre0@6.7 Pre2@6.7")
	talk(t, c, 7, exchange{kept(2, g(6, 7)), "Fin0@6.7 Fin1@6.7 Fin2@6.7"})
	isNow(t, c, now{1, true, "k", g(6, 7), 3, api.OK})
	ticks(t, c, "Fin0@6.7 Fin1@6.7 Fin2@6.7")
	talk(t, c, 7, exchange{done(0, g(6, 7)), ""}, exchange{done(1, g(6, 7)), "end 1 true 0 6.7 "})
	isNow(t, c, now{e: api.ErrIdle})
	ticks(t, c, "")

	d := c.Copy()
	if op, _, e := c.Put("k", []byte("y")); op != 2 || e != api.OK {
		t.Errorf("L1: the second Put is %d, %d", op, e)
	}
	talk(t, c, 7, exchange{told(0, g(0, 0)), ""}, exchange{told(1, g(0, 0)), "Pre0@7.7 Pre1@7.7 Pre2@7.7"})
	d.Put("j", []byte("y"))
	talk(t, d, 7, exchange{told(0, g(0, 0)), ""}, exchange{told(1, g(0, 0)), "Pre0@1.7 Pre1@1.7 Pre2@1.7"})
}

// TestExampleGet: examples 4 and 5.
func TestExampleGet(t *testing.T) {
	fragment := []byte{2, 0, 0, 0, 'h', 'i'}
	c := made(t, three, 3)
	if op, l, e := c.Get("k"); op != 1 || e != api.OK || text(l) != "Ask0 Ask1 Ask2" {
		t.Fatalf("L1: Get is %d, %v, %d", op, l, e)
	}
	talk(t, c, 3, exchange{told(0, g(0, 0)), ""}, exchange{told(1, g(0, 0)), "end 1 false 76 0.0 "})
	c.Get("k")
	talk(t, c, 3, exchange{told(0, g(6, 7)), ""}, exchange{told(1, g(0, 0)), "Read0@6.7 Read1@6.7 Read2@6.7"})
	isNow(t, c, now{2, false, "k", g(6, 7), 2, api.OK})
	talk(t, c, 3, exchange{gave(1, g(6, 7), g(6, 7)), ""})
	d := c.Copy()
	talk(t, c, 3, exchange{gave(2, g(6, 7), g(6, 7)), ""})
	ticks(t, c, "Read0@6.7 Read1@6.7 Read2@6.7")
	talk(t, c, 3, exchange{with(gave(1, g(6, 7), g(6, 7)), fragment), "end 2 false 0 6.7 hi"})

	talk(t, d, 3,
		exchange{gave(2, g(6, 7), g(8, 2)), "Read0@8.2 Read1@8.2 Read2@8.2"},
		exchange{with(gave(1, g(6, 7), g(9, 9)), fragment), ""},
		exchange{with(gave(0, g(6, 7), g(9, 9)), fragment), ""},
		exchange{with(gave(2, g(6, 7), g(9, 9)), fragment), ""})
	ticks(t, d, "Read0@8.2 Read1@8.2 Read2@8.2")
	isNow(t, d, now{2, false, "k", g(8, 2), 2, api.OK})
}

// TestExampleCancel: example 6.
func TestExampleCancel(t *testing.T) {
	c := made(t, three, 7)
	for _, x := range []struct {
		phase int
		tag   api.Tag
	}{{1, g(0, 0)}, {2, g(5, 7)}, {3, g(6, 7)}} {
		op, _, _ := c.Put("k", []byte("x"))
		if x.phase > 1 {
			says(c, 7, told(0, g(4, 9)))
			says(c, 7, told(1, g(4, 9)))
		}
		if x.phase > 2 {
			says(c, 7, kept(0, x.tag))
			says(c, 7, kept(1, x.tag))
		}
		isNow(t, c, now{op, true, "k", x.tag, x.phase, api.OK})
		r, e := c.Cancel()
		if want := (api.Result{Op: op, Put: true, Status: api.ErrGone, Tag: x.tag}); e != api.OK || !sameResult(r, want) {
			t.Errorf("L1: Cancel in phase %d is %v, %d, want %v", x.phase, r, e, want)
		}
		if r, e := c.Cancel(); e != api.ErrIdle || !sameResult(r, api.Result{}) {
			t.Errorf("L1: Cancel again is %v, %d", r, e)
		}
		isNow(t, c, now{e: api.ErrIdle})
		ticks(t, c, "")
	}
	for _, x := range []struct {
		phase int
		tag   api.Tag
	}{{1, g(0, 0)}, {2, g(4, 9)}} {
		op, _, _ := c.Get("k")
		if x.phase > 1 {
			says(c, 7, told(0, g(4, 9)))
			says(c, 7, told(1, g(4, 9)))
		}
		r, e := c.Cancel()
		if want := (api.Result{Op: op, Status: api.ErrGone, Tag: x.tag}); e != api.OK || !sameResult(r, want) {
			t.Errorf("L1: Cancel of a Get in phase %d is %v, %d, want %v", x.phase, r, e, want)
		}
	}
}

// TestExampleFull: example 7.
func TestExampleFull(t *testing.T) {
	c := made(t, three, 7)
	c.Put("k", nil)
	talk(t, c, 7, exchange{told(0, g(api.MaxCount, 9)), ""}, exchange{told(1, g(api.MaxCount, 9)), "end 1 true 42 0.0 "})
	c.Put("k", nil) // what ended so has used no counter
	talk(t, c, 7, exchange{told(0, g(0, 0)), ""}, exchange{told(1, g(0, 0)), "Pre0@1.7 Pre1@1.7 Pre2@1.7"})

	c = made(t, three, 10)
	c.Put("k", nil)
	last := fmt.Sprintf("%d.10", int64(api.MaxCount))
	talk(t, c, 10, exchange{told(0, g(api.MaxCount, 9)), ""}, exchange{told(1, g(api.MaxCount, 9)), strings.ReplaceAll("Pre0@x Pre1@x Pre2@x", "x", last)})
	c.Cancel()
	c.Put("k", nil)
	talk(t, c, 10, exchange{told(0, g(0, 0)), ""}, exchange{told(1, g(0, 0)), "end 2 true 42 0.0 "})
	c.Put("j", nil)
	talk(t, c, 10, exchange{told(0, g(0, 0)), ""}, exchange{told(1, g(0, 0)), "Pre0@1.10 Pre1@1.10 Pre2@1.10"})
}

// TestNew: example 8, and the edges.
func TestNew(t *testing.T) {
	for _, x := range []struct {
		c  api.Config
		id int
		e  api.Errno
	}{
		{api.Config{N: 2, K: 3}, 1, api.ErrConfig}, {api.Config{N: 2, K: 3}, 0, api.ErrConfig}, {api.Config{}, 1, api.ErrConfig},
		{api.Config{N: 3, K: 0}, 1, api.ErrConfig}, {api.Config{N: 256, K: 1}, 1, api.ErrConfig}, {api.Config{N: 3, K: 1, Delta: -1}, 1, api.ErrConfig},
		{api.Config{N: 3, K: 1, Delta: api.MaxDelta + 1}, 1, api.ErrConfig}, {api.Config{N: -1, K: -2}, -1, api.ErrConfig},
		{three, 0, api.ErrArg}, {three, -1, api.ErrArg}, {three, 65536, api.ErrArg}, {three, math.MaxInt, api.ErrArg}, {three, math.MinInt, api.ErrArg},
		{three, 1, api.OK}, {three, 65535, api.OK}, {api.Config{N: 255, K: 255, Delta: api.MaxDelta}, 1, api.OK}, {api.Config{N: 1, K: 1}, 1, api.OK},
	} {
		c, e := client.New(x.c, x.id)
		if e != x.e || (c == nil) != (e != api.OK) {
			t.Errorf("L1: New of %v, %d is %v, %d, want %d", x.c, x.id, c, e, x.e)
		}
		if c != nil {
			isNow(t, c, now{e: api.ErrIdle})
			ticks(t, c, "")
			if r, e := c.Cancel(); e != api.ErrIdle || !sameResult(r, api.Result{}) {
				t.Errorf("L1: Cancel of a new one is %v, %d", r, e)
			}
		}
	}
}

// TestRefused: which error, in which order; nothing changes, and no number is used up.
func TestRefused(t *testing.T) {
	c := made(t, three, 1)
	long, most := make([]byte, 65537), strings.Repeat("k", 64)
	for _, x := range []struct {
		key   string
		value []byte
		e     api.Errno
	}{{"", nil, api.ErrKey}, {"", long, api.ErrKey}, {most + "k", nil, api.ErrKey}, {most + "k", long, api.ErrKey}, {"k", long, api.ErrValue}, {most, long, api.ErrValue}} {
		if op, l, e := c.Put(x.key, x.value); op != 0 || len(l) != 0 || e != x.e {
			t.Errorf("L1: Put of %d bytes under %d is %d, %v, %d, want %d", len(x.value), len(x.key), op, l, e, x.e)
		}
		if x.e == api.ErrKey {
			if op, l, e := c.Get(x.key); op != 0 || len(l) != 0 || e != x.e {
				t.Errorf("L1: Get of a key of %d bytes is %d, %v, %d, want %d", len(x.key), op, l, e, x.e)
			}
		}
		isNow(t, c, now{e: api.ErrIdle})
	}
	if op, l, e := c.Put(most, long[:65536]); op != 1 || len(l) != 3 || e != api.OK {
		t.Errorf("L1: Put of just as much as may be is %d, %d requests, %d", op, len(l), e)
	}
	for _, key := range []string{"", most + "k", "k", most} {
		if op, l, e := c.Put(key, long); op != 0 || len(l) != 0 || e != api.ErrBusy {
			t.Errorf("L1: Put of a busy one is %d, %v, %d", op, l, e)
		}
		if op, l, e := c.Get(key); op != 0 || len(l) != 0 || e != api.ErrBusy {
			t.Errorf("L1: Get of a busy one is %d, %v, %d", op, l, e)
		}
	}
	isNow(t, c, now{1, true, most, g(0, 0), 1, api.OK})
	c.Cancel()
	if op, _, e := c.Get(most); op != 2 || e != api.OK {
		t.Errorf("L1: the next Get is %d, %d", op, e)
	}
	c.Cancel()
	if op, _, e := c.Put("\x00", nil); op != 3 || e != api.OK {
		t.Errorf("L1: the next Put is %d, %d", op, e)
	}
}

// TestMost: a value of just MaxValue bytes is put and got.
func TestMost(t *testing.T) {
	value := make([]byte, api.MaxValue)
	for i := range value {
		value[i] = byte(i * i >> 3)
	}
	config := api.Config{N: 5, K: 3}
	c := made(t, config, 2)
	c.Put("k", value)
	var pres []api.Message
	for server := range 4 {
		pres, _, _ = c.Handle(to(c, 2, told(server, g(0, 0))))
	}
	if len(pres) != 5 || len(pres[4].Data) != 21847 {
		t.Fatalf("L1: %d Pres of %d bytes", len(pres), len(pres[len(pres)-1].Data))
	}
	c.Cancel()
	c.Get("k")
	for server := range 4 {
		c.Handle(to(c, 2, told(server, g(1, 2))))
	}
	for _, server := range []int{4, 1, 3} {
		if got := says(c, 2, with(gave(server, g(1, 2), g(1, 2)), pres[server].Data)); got != "" {
			t.Fatalf("L1: ahead of a quorum: %.40q", got)
		}
	}
	_, r, end := c.Handle(to(c, 2, gave(0, g(1, 2), g(0, 0))))
	if !end || r.Status != api.OK || r.Tag != g(1, 2) || !bytes.Equal(r.Value, value) {
		t.Errorf("L1: the Get is %v, %d, %v", end, r.Status, r.Tag)
	}
}

// TestUnused: what a kind doesn't use plays no part; what it uses does.
func TestUnused(t *testing.T) {
	odd := func(m api.Message) api.Message {
		if m.Kind == api.Told || m.Kind == api.Kept || m.Kind == api.Done {
			m.Has, m.Data = true, []byte("zz")
		}
		if m.Kind == api.Told {
			m.Tag = g(-3, 70000)
		}
		if m.Kind == api.Kept || m.Kind == api.Done {
			m.Top = g(-3, 70000)
		}
		return m
	}
	c := made(t, three, 7)
	c.Put("k", []byte("x"))
	talk(t, c, 7,
		exchange{odd(told(0, g(0, 0))), ""}, exchange{odd(told(1, g(0, 0))), "Pre0@1.7 Pre1@1.7 Pre2@1.7"},
		exchange{odd(kept(0, g(1, 7))), ""}, exchange{odd(kept(1, g(1, 7))), "Fin0@1.7 Fin1@1.7 Fin2@1.7"},
		exchange{odd(done(0, g(1, 7))), ""}, exchange{odd(done(1, g(1, 7))), "end 1 true 0 1.7 "})
	c.Get("k")
	bare := gave(2, g(1, 7), g(1, 7))
	bare.Data = []byte{0, 0, 0, 0} // without Has that is no fragment
	talk(t, c, 7,
		exchange{told(0, g(1, 7)), ""}, exchange{told(1, g(1, 7)), "Read0@1.7 Read1@1.7 Read2@1.7"},
		exchange{bare, ""})
	ticks(t, c, "Read0@1.7 Read1@1.7 Read2@1.7")
	talk(t, c, 7, exchange{gave(1, g(1, 7), g(0, 0)), ""}, exchange{with(gave(0, g(1, 7), g(0, 0)), nil), "end 2 false 23 1.7 "})
}

// wrong are the messages that differ from one that counts in one thing that is looked at.
func wrong(m api.Message) []api.Message {
	list := make([]api.Message, 0, 40)
	vary := func(change func(*api.Message)) {
		w := m
		change(&w)
		list = append(list, w)
	}
	for _, d := range []int{-1, 1, 65535} {
		vary(func(w *api.Message) { w.Client += d })
		vary(func(w *api.Message) { w.Op += int64(d) })
	}
	vary(func(w *api.Message) { w.Client = 0 })
	vary(func(w *api.Message) { w.Op = 0 })
	for _, key := range []string{"", "K", "k ", "kk", "j"} {
		vary(func(w *api.Message) { w.Key = key })
	}
	for _, server := range []int{-1, 3, 255, math.MinInt, math.MaxInt} {
		vary(func(w *api.Message) { w.Server = server })
	}
	for kind := -1; kind < 10; kind++ {
		if kind != m.Kind {
			vary(func(w *api.Message) { w.Kind = kind })
		}
	}
	if m.Kind != api.Told {
		for _, tag := range []api.Tag{{}, g(m.Tag.Count, m.Tag.Client+1), g(m.Tag.Count+1, m.Tag.Client), g(m.Tag.Count-1, m.Tag.Client)} {
			vary(func(w *api.Message) { w.Tag = tag })
		}
	}
	if m.Kind == api.Told || m.Kind == api.Gave {
		for _, top := range []api.Tag{g(0, 1), g(1, 0), g(-1, 1), g(1, -1), g(1, 65536), g(api.MaxCount+1, 1), g(math.MinInt64, 1)} {
			vary(func(w *api.Message) { w.Top = top })
		}
	}
	return list
}

// TestDoesNotCount: L3, in each phase: an answer of which one thing is wrong changes nothing, nor does one with nothing under way.
func TestDoesNotCount(t *testing.T) {
	fragment := []byte{1, 0, 0, 0, 'x'}
	all := []exchange{
		{told(0, g(4, 9)), ""}, {told(2, g(6, 1)), "Pre0@6.7 Pre1@6.7 Pre2@6.7"},
		{kept(1, g(6, 7)), ""}, {kept(0, g(6, 7)), "Fin0@6.7 Fin1@6.7 Fin2@6.7"},
		{done(1, g(6, 7)), ""}, {done(2, g(6, 7)), "end 1 true 0 6.7 "},
	}
	c := made(t, three, 7)
	c.Put("k", []byte("x"))
	put := func(lines []exchange) {
		for _, x := range lines {
			right := to(c, 7, x.m)
			before, was := nowOf(c), c.Tick()
			for _, w := range wrong(right) {
				if l, r, end := c.Handle(w); len(l) != 0 || end || !sameResult(r, api.Result{}) {
					t.Fatalf("L3: %+v brings %v, %v, %v", w, l, r, end)
				}
				if got := nowOf(c); got != before || !sameMessages(c.Tick(), was) {
					t.Fatalf("L3: behind %+v it is %+v", w, got)
				}
			}
			talk(t, c, 7, x)
			for _, x := range all { // and none with nothing under way
				if n := nowOf(c); n.e == api.ErrIdle {
					x.m.Client, x.m.Op, x.m.Key = 7, right.Op, "k"
					if l, r, end := c.Handle(x.m); len(l) != 0 || end || !sameResult(r, api.Result{}) {
						t.Fatalf("L3: with nothing under way %+v brings %v, %v, %v", x.m, l, r, end)
					}
				}
			}
		}
	}
	put(all)
	c.Get("k")
	put([]exchange{
		{told(0, g(6, 7)), ""}, {told(1, g(0, 0)), "Read0@6.7 Read1@6.7 Read2@6.7"},
		{gave(0, g(6, 7), g(6, 7)), ""}, {gave(1, g(6, 7), g(8, 1)), "Read0@8.1 Read1@8.1 Read2@8.1"},
		{with(gave(2, g(8, 1), g(8, 1)), fragment), ""}, {gave(0, g(8, 1), g(9, 1)), "end 2 false 0 8.1 x"},
	})
}

// TestTakenAgain: L3: every answer that was taken comes three times more, at once and later in its phase: all goes on as if it had come once.
func TestTakenAgain(t *testing.T) {
	rnd := rand.New(rand.NewPCG(18, 3))
	again := 0
	for range 1500 {
		c := drawConfig(rnd)
		once, often := newPair(t, c, 3), newPair(t, c, 3)
		value := []byte("value")
		var taken []api.Message
		for range 120 {
			x := drawAct(rnd, once.p, value)
			before := now{op: once.p.begun, tag: once.p.tag, phase: once.p.phase}
			counted := x.kind == 3 && once.p.takes(x.m)
			a, b := x.real(once.c), x.real(often.c)
			x.told(once.p)
			if !sameReply(a, b) {
				t.Fatalf("L3: %v: %v is %+v, and behind doubled answers %+v", c, x, a, b)
			}
			if (before != now{op: once.p.begun, tag: once.p.tag, phase: once.p.phase}) || !once.p.busy {
				taken = taken[:0]
			}
			if counted {
				taken = append(taken, x.m)
			}
			for range 3 {
				if len(taken) == 0 {
					break
				}
				m := pick(rnd, taken)
				if l, r, end := often.c.Handle(m); len(l) != 0 || end {
					t.Fatalf("L3: %v: %+v once more brings %v, %v", c, m, l, r)
				}
				again++
			}
			if nowOf(once.c) != nowOf(often.c) || !sameMessages(once.c.Tick(), often.c.Tick()) {
				t.Fatalf("L3: %v: behind %v it is %+v, and with doubled answers %+v", c, x, nowOf(once.c), nowOf(often.c))
			}
		}
	}
	if again < 100000 {
		t.Errorf("the test says little: %d came again", again)
	}
}

// TestLaterTop: L3's exception: of a server that has answered already a higher Top counts, and so does a fragment.
func TestLaterTop(t *testing.T) {
	fragment := []byte{1, 0, 0, 0, 'x'}
	c := made(t, three, 7)
	c.Get("k")
	talk(t, c, 7,
		exchange{told(0, g(2, 2)), ""}, exchange{told(0, g(3, 3)), ""}, exchange{told(0, g(1, 1)), ""},
		exchange{told(1, g(0, 0)), "Read0@3.3 Read1@3.3 Read2@3.3"},
		exchange{gave(0, g(3, 3), g(3, 3)), ""}, exchange{gave(1, g(3, 3), g(3, 3)), ""}, exchange{gave(1, g(3, 3), g(2, 9)), ""},
		exchange{gave(0, g(3, 3), g(3, 4)), "Read0@3.4 Read1@3.4 Read2@3.4"},
		exchange{gave(2, g(3, 4), g(3, 4)), ""}, exchange{with(gave(2, g(3, 4), g(3, 4)), fragment), ""})
	ticks(t, c, "Read0@3.4 Read1@3.4")
	talk(t, c, 7, exchange{gave(0, g(3, 4), g(9, 9)), "end 1 false 0 3.4 x"})
}

// TestAnew: what the phase that is begun anew had been answered is forgotten, its Top too; the highest Top is read, whoever told it and in whatever order.
func TestAnew(t *testing.T) {
	config := api.Config{N: 4, K: 2}
	parts := split(config, []byte("new"))
	c := made(t, config, 7)
	c.Get("k")
	talk(t, c, 7, exchange{told(0, g(2, 1)), ""}, exchange{told(3, g(1, 9)), ""}, exchange{told(1, g(2, 1)), "Read0@2.1 Read1@2.1 Read2@2.1 Read3@2.1"},
		exchange{gave(0, g(2, 1), g(5, 1)), ""}, exchange{with(gave(1, g(2, 1), g(5, 2)), []byte("old")), ""}, exchange{gave(2, g(2, 1), g(4, 9)), "Read0@5.2 Read1@5.2 Read2@5.2 Read3@5.2"},
		exchange{gave(0, g(5, 2), g(5, 2)), ""}, exchange{gave(1, g(5, 2), g(5, 1)), ""}, exchange{gave(2, g(5, 2), g(3, 3)), ""}, exchange{gave(3, g(5, 2), g(0, 0)), ""})
	ticks(t, c, "Read0@5.2 Read1@5.2 Read2@5.2 Read3@5.2")
	talk(t, c, 7, exchange{with(gave(3, g(5, 2), g(0, 0)), parts[3]), ""})
	ticks(t, c, "Read0@5.2 Read1@5.2 Read2@5.2")
	talk(t, c, 7, exchange{with(gave(1, g(5, 2), g(9, 9)), parts[1]), "end 1 false 0 5.2 new"})
}

// TestFewerThanK: with K above what a quorum gave it waits for more, though all of a quorum answered.
func TestFewerThanK(t *testing.T) {
	config := api.Config{N: 5, K: 3}
	parts := split(config, []byte("value"))
	c := made(t, config, 7)
	c.Get("k")
	for server := range 4 {
		says(c, 7, told(server, g(1, 1)))
	}
	for server := range 4 {
		m := gave(server, g(1, 1), g(1, 1))
		if server < 2 {
			m = with(m, parts[server])
		}
		talk(t, c, 7, exchange{m, ""})
	}
	ticks(t, c, "Read2@1.1 Read3@1.1 Read4@1.1")
	talk(t, c, 7, exchange{with(gave(4, g(1, 1), g(1, 1)), parts[4]), "end 1 false 0 1.1 value"})
}

// TestLowest: the fragments of the K lowest servers are joined, the first of each; others play no part, and what stripe refuses is the Status.
func TestLowest(t *testing.T) {
	config := api.Config{N: 6, K: 2} // a quorum is four
	parts := split(config, []byte("value"))
	spoilt := func(server, at int, by byte) []byte {
		b := bytes.Clone(parts[server])
		b[at] ^= by
		return b
	}
	for _, x := range []struct {
		data []([]byte) // of servers 1, 2, 4, 5, in the order 5, 4, 2, 1
		want string
	}{
		{[][]byte{parts[1], parts[2], []byte("zz"), []byte("zzzz")}, "end 1 false 0 1.1 value"},
		{[][]byte{nil, parts[2], parts[4], []byte("zzzz")}, "end 1 false 0 1.1 value"},
		{[][]byte{nil, nil, parts[4], parts[5]}, "end 1 false 0 1.1 value"},
		{[][]byte{parts[1], []byte("zz"), parts[4], parts[5]}, "end 1 false 23 1.1 "},
		{[][]byte{parts[1], []byte{}, parts[4], parts[5]}, "end 1 false 23 1.1 "},
		{[][]byte{[]byte{0}, []byte{0}, parts[4], parts[5]}, "end 1 false 23 1.1 "},
		{[][]byte{make([]byte, 40000), make([]byte, 40000), parts[4], parts[5]}, "end 1 false 23 1.1 "},
		{[][]byte{spoilt(1, 1, 7), spoilt(2, 1, 9), parts[4], parts[5]}, "end 1 false 25 1.1 "},
	} {
		c := made(t, config, 7)
		c.Get("k")
		for server := range 4 {
			says(c, 7, told(server, g(1, 1)))
		}
		got := ""
		for i, server := range []int{5, 4, 2, 1} {
			if got != "" {
				t.Fatalf("L1: ahead of a quorum: %q", got)
			}
			m := gave(server, g(1, 1), g(1, 1))
			if data := x.data[3-i]; data != nil {
				m = with(m, data)
			}
			got = says(c, 7, m)
			if i < 3 && m.Has { // another one of the same server is let go
				says(c, 7, with(m, []byte("later")))
			}
		}
		if got != x.want {
			t.Errorf("L1: the Get is %q, want %q", got, x.want)
		}
		isNow(t, c, now{e: api.ErrIdle})
	}
	c := made(t, api.Config{N: 1, K: 1}, 7)
	c.Get("k")
	says(c, 7, told(0, g(1, 1)))
	talk(t, c, 7, exchange{with(gave(0, g(1, 1), g(1, 1)), []byte{0, 0, 0, 0}), "end 1 false 0 1.1 "})
	c.Get("k")
	says(c, 7, told(0, g(1, 1)))
	talk(t, c, 7, exchange{with(gave(0, g(1, 1), g(1, 1)), []byte{1, 0, 0, 0}), "end 2 false 25 1.1 "})
	c = made(t, api.Config{N: 2, K: 2}, 7)
	c.Get("k")
	says(c, 7, told(0, g(1, 1)))
	says(c, 7, told(1, g(1, 1)))
	talk(t, c, 7, exchange{with(gave(0, g(1, 1), g(1, 1)), []byte{1, 0, 0}), ""}, exchange{with(gave(1, g(1, 1), g(1, 1)), []byte{0, 'x', 1}), "end 1 false 24 1.1 "})
}

// TestFragments: of every config of few servers each Pre has its own server's fragment, at the phase's beginning and at each tick.
func TestFragments(t *testing.T) {
	value := []byte("a value of some bytes")
	for n := 1; n <= 9; n++ {
		for k := 1; k <= n; k++ {
			config := api.Config{N: n, K: k, Delta: k}
			q, _ := quorum.Size(config)
			c := made(t, config, 5)
			c.Put("k", value)
			var pres []api.Message
			for i := range q {
				if len(pres) != 0 {
					t.Fatalf("L1: %v: met by %d servers", config, i)
				}
				pres, _, _ = c.Handle(to(c, 5, told((i+2)%n, g(1, 1))))
			}
			parts := split(config, value)
			check := func(l []api.Message, from int) {
				if len(l) != n-from {
					t.Fatalf("L1: %v: %d Pres, want %d", config, len(l), n-from)
				}
				for i, m := range l {
					if m.Kind != api.Pre || m.Server != from+i || m.Tag != g(1, 5) || !bytes.Equal(m.Data, parts[from+i]) {
						t.Fatalf("L1: %v: the Pre to server %d is %+v", config, from+i, m)
					}
				}
			}
			check(pres, 0)
			for i := range q - 1 {
				check(c.Tick(), i)
				says(c, 5, kept(i, g(1, 5)))
			}
			check(c.Tick(), q-1)
		}
	}
}

// TestTagsRise: L2: whatever the client is told, whatever becomes of its Puts, its tags of a key rise, and no two clients have one tag.
func TestTagsRise(t *testing.T) {
	rnd := rand.New(rand.NewPCG(18, 4))
	ended := map[api.Errno]int{}
	for range 300 {
		config := drawConfig(rnd)
		seen := map[string]map[api.Tag]bool{"k": {}, "j": {}}
		for _, id := range []int{1, 2, 9, 65535} {
			c := made(t, config, id)
			last := map[string]api.Tag{}
			for range 15 {
				key := pick(rnd, []string{"k", "j"})
				c.Put(key, []byte("v"))
				for nowOf(c).phase == 1 {
					c.Handle(to(c, id, told(rnd.IntN(config.N), drawTag(rnd))))
				}
				n := nowOf(c)
				if n.e == api.ErrIdle {
					ended[api.ErrFull]++
					continue
				}
				if !above(n.tag, last[key]) || n.tag.Count <= last[key].Count || n.tag.Client != id || seen[key][n.tag] {
					t.Fatalf("L2: client %d puts %q with %v behind %v", id, key, n.tag, last[key])
				}
				last[key], seen[key][n.tag] = n.tag, true
				for i := 0; nowOf(c).phase != 0 && rnd.IntN(3*config.N) > 0; i++ {
					m := kept(rnd.IntN(config.N), n.tag)
					if nowOf(c).phase == 3 {
						m.Kind = api.Done
					}
					if _, r, end := c.Handle(to(c, id, m)); end {
						ended[r.Status]++
					}
				}
				if _, e := c.Cancel(); e == api.OK {
					ended[api.ErrGone]++
				}
			}
		}
	}
	if ended[api.OK] < 500 || ended[api.ErrGone] < 500 || ended[api.ErrFull] < 100 {
		t.Errorf("the test says little: %v", ended)
	}
}

// TestOkHadQuorums: L4: of each Put that is OK the answers that were handed in are counted beside it.
func TestOkHadQuorums(t *testing.T) {
	rnd := rand.New(rand.NewPCG(18, 5))
	ok, just := 0, 0
	for range 6000 {
		config := drawConfig(rnd)
		q, _ := quorum.Size(config)
		c := made(t, config, 4)
		p := &paper{c: config, id: 4}
		c.Put("k", []byte("v"))
		p.begin(true, "k", []byte("v"))
		servers := [4]map[int]bool{{}, {}, {}, {}}
		var tops []api.Tag
		for range 40 * config.N {
			m := drawMessage(rnd, p, []byte("v"))
			if p.takes(m) {
				servers[p.phase][m.Server] = true
				if p.phase == 1 {
					tops = append(tops, m.Top)
				}
			}
			p.handle(m)
			_, r, end := c.Handle(m)
			if !end {
				continue
			}
			if r.Status != api.OK {
				break
			}
			ok++
			for phase := 1; phase <= 3; phase++ {
				if len(servers[phase]) < q {
					t.Fatalf("L4: %v: the Put is OK with %d of %d answers in phase %d", config, len(servers[phase]), q, phase)
				}
				if len(servers[phase]) == q {
					just++
				}
			}
			for _, top := range tops {
				if !above(r.Tag, top) {
					t.Fatalf("L4: %v: the Put tells %v, and was told %v", config, r.Tag, top)
				}
			}
			break
		}
	}
	if ok < 4000 || just != 3*ok {
		t.Errorf("the test says little, or a phase is met late: %d OK, %d of %d phases with just a quorum", ok, just, 3*ok)
	}
}

// TestCopy: neither sees what the other is told, in whatever phase it was made.
func TestCopy(t *testing.T) {
	c := made(t, three, 7)
	c.Put("k", []byte("x"))
	says(c, 7, told(0, g(3, 3)))
	d := c.Copy()
	talk(t, d, 7, exchange{told(1, g(9, 9)), "Pre0@10.7 Pre1@10.7 Pre2@10.7"}) // chooses a tag
	isNow(t, c, now{1, true, "k", g(0, 0), 1, api.OK})
	ticks(t, c, "Ask1 Ask2")
	talk(t, c, 7, exchange{told(1, g(0, 0)), "Pre0@3.7 Pre1@3.7 Pre2@3.7"})
	e := c.Copy()
	talk(t, e, 7, exchange{kept(0, g(3, 7)), ""}, exchange{kept(1, g(3, 7)), "Fin0@3.7 Fin1@3.7 Fin2@3.7"})
	ticks(t, c, "Pre0@3.7 Pre1@3.7 Pre2@3.7")
	f := e.Copy()
	talk(t, f, 7, exchange{done(2, g(3, 7)), ""}, exchange{done(1, g(3, 7)), "end 1 true 0 3.7 "})
	ticks(t, e, "Fin0@3.7 Fin1@3.7 Fin2@3.7")
	isNow(t, f, now{e: api.ErrIdle})
	c.Cancel()
	isNow(t, e, now{1, true, "k", g(3, 7), 3, api.OK})
	h := f.Copy() // of an idle one
	for i, x := range []*client.Client{c, f, h} {
		if op, _, _ := x.Put("k", nil); op != 2 {
			t.Errorf("L1: copy %d numbers its next operation %d", i, op)
		}
		talk(t, x, 7, exchange{told(0, g(0, 0)), ""}, exchange{told(2, g(0, 0)), "Pre0@4.7 Pre1@4.7 Pre2@4.7"})
	}
	d.Cancel()
	d.Put("k", nil)
	talk(t, d, 7, exchange{told(0, g(0, 0)), ""}, exchange{told(2, g(0, 0)), "Pre0@11.7 Pre1@11.7 Pre2@11.7"})
}

// TestNil: every call of a nil client.
func TestNil(t *testing.T) {
	var c *client.Client
	if op, l, e := c.Put("", make([]byte, 70000)); op != 0 || l != nil || e != api.OK {
		t.Errorf("P1: Put of nil is %d, %v, %d", op, l, e)
	}
	if op, l, e := c.Get(""); op != 0 || l != nil || e != api.OK {
		t.Errorf("P1: Get of nil is %d, %v, %d", op, l, e)
	}
	if r, e := c.Cancel(); !sameResult(r, api.Result{}) || e != api.OK {
		t.Errorf("P1: Cancel of nil is %v, %d", r, e)
	}
	if l, r, end := c.Handle(told(0, g(1, 1))); l != nil || !sameResult(r, api.Result{}) || end {
		t.Errorf("P1: Handle of nil is %v, %v, %v", l, r, end)
	}
	if l := c.Tick(); l != nil {
		t.Errorf("P1: Tick of nil is %v", l)
	}
	if n := nowOf(c); n != (now{}) {
		t.Errorf("P1: Now of nil is %v", n)
	}
	if d := c.Copy(); d != nil {
		t.Errorf("P1: Copy of nil is %v", d)
	}
}

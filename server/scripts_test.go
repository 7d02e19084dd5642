package server_test

import (
	"math/rand/v2"
	"slices"
	"testing"

	"sherd/api"
	"sherd/disk"
	"sherd/flog"
)

// requestsOfTwo: each kind, of two keys and of tags below, between and above each other, with unlike fragments of one tag.
func requestsOfTwo() []api.Message {
	all := []api.Message{ask("k"), ask("l")}
	for _, g := range []api.Tag{tg(1, 4), tg(2, 1), tg(2, 2)} {
		all = append(all, pre("k", g, "ab"), fin("k", g), read("k", g))
	}
	return append(all, pre("k", tg(2, 1), ""), pre("l", tg(1, 1), "c"), fin("l", tg(5, 1)))
}

// refusedMessages: one for each way in which a message is refused, and for two ways at once.
func refusedMessages() []api.Message {
	other := fin("k", tg(7, 7))
	other.Server = 2
	answer := message(api.Kept, "k", tg(7, 7), "")
	elsewhere := answer
	elsewhere.Server = 0
	return []api.Message{message(9, "k", tg(7, 7), ""), fin("", tg(7, 7)), answer, elsewhere, other}
}

// calls: each kind of call.
func calls() []call {
	all := []call{{name: "Compact"}, {name: "Open"}}
	for _, m := range slices.Concat(requestsOfTwo(), refusedMessages()) {
		all = append(all, handle(m))
	}
	for _, n := range []int{1, 2, 3, 6} {
		all = append(all, call{name: "Stop", n: n}, call{name: "Stop", n: n, done: true})
	}
	return all
}

func isCompact(c call) bool { return c.name == "Compact" }

// eachScript: all scripts of that many calls.
func eachScript(size int, f func(script []call)) {
	all := calls()
	script := make([]call, size)
	var from func(i int)
	from = func(i int) {
		if i == size {
			f(script)
			return
		}
		for _, c := range all {
			script[i] = c
			from(i + 1)
		}
	}
	from(0)
}

// logged: a server that is opened on a log of so many updates of the key z beside what else it has; of them one entry is left.
func logged(t *testing.T, delta, updates int) pair {
	t.Helper()
	h := head
	h.Config.Delta = delta
	disks := [2]*disk.Disk{disk.New(), disk.New()}
	for _, d := range disks {
		l, _, e := flog.Open(d, h)
		if e != api.OK {
			t.Fatal(e)
		}
		for n := range updates {
			u := api.Update{Kind: api.UFin, Key: "z", Entry: api.Entry{Tag: tg(int64(n+1), 1)}}
			if e := l.Append(u); e != api.OK {
				t.Fatal(e)
			}
		}
	}
	b, e := openBoth(t, h, disks[0], disks[1], "a log that was written")
	if e != api.OK {
		t.Fatalf("P16.1: Open on a log: %d", e)
	}
	return b
}

// TestAllShortScripts: on a new server, and on ones whose log has just as many updates that some scripts make it small.
func TestAllShortScripts(t *testing.T) {
	rnd := rand.New(rand.NewPCG(16, 1))
	dead, small := 0, 0
	begin := []func() pair{
		func() pair { return newPair(t, 0) },
		func() pair { return logged(t, 0, 20) },
		func() pair { return logged(t, 1, 21) },
	}
	for i, from := range begin {
		for size := range 4 {
			eachScript(size, func(script []call) {
				b := from()
				for i, c := range script {
					b.do(t, c, script[:i])
				}
				if b.disk.Dead() {
					dead++
				} else if n, _ := b.server.Log(); i > 0 && n < 20 && !slices.ContainsFunc(script, isCompact) {
					small++
				}
				b.crash(t, []int{rnd.IntN(4), rnd.IntN(40), rnd.IntN(4), rnd.IntN(40)}, script)
			})
		}
	}
	if dead < 5000 || small < 1000 {
		t.Fatalf("%d scripts stop the machine, %d make the log small: the test says little", dead, small)
	}
}

func anyBytes(rnd *rand.Rand, most int) []byte {
	b := make([]byte, rnd.IntN(most+1))
	for i := range b {
		b[i] = byte(rnd.Uint32())
	}
	return b
}

// anyMessage: most are requests to the server, of few keys and of tags that lie close to each other.
func anyMessage(rnd *rand.Rand, high int64) api.Message {
	m := api.Message{Kind: 1 + 2*rnd.IntN(4), Client: 1 + rnd.IntN(api.MaxClients), Server: 1, Op: 1 + rnd.Int64N(api.MaxOp), Key: []string{"a", "b", "\x00", "\xff\xfe"}[rnd.IntN(4)]}
	if m.Kind != api.Ask {
		m.Tag = tg(high+1+rnd.Int64N(6), 1+rnd.IntN(3))
	}
	if m.Kind == api.Pre {
		m.Data = anyBytes(rnd, 20)
	}
	switch rnd.IntN(40) {
	case 0:
		m.Kind = rnd.IntN(11)
	case 1:
		m.Server = rnd.IntN(4) - 1
	case 2:
		m.Tag.Client = 0
	case 3:
		m.Has = true
	case 4:
		m.Op, m.Client = m.Op-1, m.Client-1
	}
	return m
}

func anyChoices(rnd *rand.Rand) []int {
	list := make([]int, rnd.IntN(6))
	for i := range list {
		list[i] = rnd.IntN(400) - 200
	}
	return list
}

func anyCall(rnd *rand.Rand, high int64) call {
	switch n := rnd.IntN(60); {
	case n < 55:
		return handle(anyMessage(rnd, high))
	case n < 57:
		return call{name: "Compact"}
	case n < 58:
		return call{name: "Open"}
	}
	return call{name: "Stop", n: rnd.IntN(25), done: rnd.IntN(2) == 0}
}

// TestLongScripts: several servers beside each other, whose machines stop now and then; each goes on as one that is opened on what a crash leaves.
func TestLongScripts(t *testing.T) {
	rnd := rand.New(rand.NewPCG(16, 2))
	crashes, done := 0, 0
	for run := range 60 {
		pairs := []pair{newPair(t, run%4), newPair(t, 0), newPair(t, []int{1, api.MaxDelta}[run%2])}
		for step := range 400 {
			b := &pairs[rnd.IntN(len(pairs))]
			if rnd.IntN(60) == 0 || b.disk.Dead() && rnd.IntN(3) == 0 {
				*b = b.crash(t, anyChoices(rnd), step)
				crashes++
				continue
			}
			before := len(b.paper.done)
			b.do(t, anyCall(rnd, int64(step/10)), step)
			if len(b.paper.done) > before {
				done++
			}
			for _, other := range pairs {
				other.check(t, "P5: a call of another server")
			}
		}
	}
	if crashes < 500 || done < 5000 {
		t.Fatalf("%d crashes, %d updates: the test says little", crashes, done)
	}
}

// TestTwiceIsOnce: in any state that short and long scripts bring about.
func TestTwiceIsOnce(t *testing.T) {
	rnd := rand.New(rand.NewPCG(16, 3))
	for run := range 100 {
		b := newPair(t, run%3)
		for step := range 150 {
			m := anyMessage(rnd, int64(step/8))
			first, e := b.server.Handle(m)
			acts, done := b.disk.Acts(), len(b.server.Done())
			second, f := b.server.Handle(m)
			if e != f || !sameMessages(first, second) {
				t.Fatalf("P16.6: %v is answered %v, %d, then %v, %d", m, first, e, second, f)
			}
			if b.disk.Acts() != acts || len(b.server.Done()) != done {
				t.Fatalf("P16.6: %v brings an update the second time", m)
			}
		}
	}
}

package client_test

import (
	"bytes"
	"fmt"
	"math/rand/v2"
	"slices"
	"sync"
	"testing"

	"sherd/api"
	"sherd/client"
	"sherd/code"
	"sherd/stripe"
)

// The chapter told a second time: a paper has every tag that was ever chosen and every answer that counted in the present phase, line by line as they came, gone through from one end for each question.

type paper struct {
	c      api.Config
	id     int
	begun  int64
	keys   []string // of each Put that chose a tag
	counts []int64  // which counter that was
	busy   bool
	put    bool
	key    string
	value  []byte
	tag    api.Tag
	phase  int
	lines  []api.Message
}

// reply is what a call answers.
type reply struct {
	op  int64
	l   []api.Message
	r   api.Result
	end bool
	e   api.Errno
}

func (p *paper) copy() *paper {
	q := *p
	q.keys, q.counts, q.lines = slices.Clone(p.keys), slices.Clone(p.counts), slices.Clone(p.lines)
	return &q
}

func (p *paper) begin(put bool, key string, value []byte) reply {
	switch {
	case p.busy:
		return reply{e: api.ErrBusy}
	case len(key) < 1 || len(key) > 64:
		return reply{e: api.ErrKey}
	case put && len(value) > 65536:
		return reply{e: api.ErrValue}
	}
	p.begun++
	p.busy, p.put, p.key, p.value = true, put, key, bytes.Clone(value)
	return reply{op: p.begun, l: p.to(1, api.Tag{})}
}

// to goes to a phase, with nothing answered.
func (p *paper) to(phase int, t api.Tag) []api.Message {
	p.phase, p.tag, p.lines = phase, t, nil
	return p.tick()
}

func (p *paper) end(status api.Errno, value []byte) reply {
	p.busy = false
	return reply{r: api.Result{Op: p.begun, Put: p.put, Status: status, Tag: p.tag, Value: value}, end: true}
}

func (p *paper) cancel() reply {
	if !p.busy {
		return reply{e: api.ErrIdle}
	}
	r := p.end(api.ErrGone, nil)
	r.end = false
	return r
}

// answered tells whether a server has, and what it gave first.
func (p *paper) answered(server int) (has bool, given *api.Message) {
	for i := range p.lines {
		if m := &p.lines[i]; m.Server == server {
			has = true
			if m.Has && given == nil {
				given = m
			}
		}
	}
	return has, given
}

func (p *paper) met() bool {
	n := 0
	for server := range p.c.N {
		if has, _ := p.answered(server); has {
			n++
		}
	}
	return n+n >= p.c.N+p.c.K
}

func above(a, b api.Tag) bool {
	return a.Count > b.Count || a.Count == b.Count && a.Client > b.Client
}

func (p *paper) top() api.Tag {
	var top api.Tag
	for _, m := range p.lines {
		if above(m.Top, top) {
			top = m.Top
		}
	}
	return top
}

func (p *paper) tick() []api.Message {
	if !p.busy {
		return nil
	}
	var l []api.Message
	for server := range p.c.N {
		has, given := p.answered(server)
		reading := !p.put && p.phase == 2
		if has && !(reading && given == nil) {
			continue
		}
		m := api.Message{Client: p.id, Server: server, Op: p.begun, Key: p.key}
		switch {
		case p.phase == 1:
			m.Kind = api.Ask
		case reading:
			m.Kind, m.Tag = api.Read, p.tag
		case p.phase == 2:
			m.Kind, m.Tag, m.Data = api.Pre, p.tag, split(p.c, p.value)[server]
		case p.phase == 3:
			m.Kind, m.Tag = api.Fin, p.tag
		}
		l = append(l, m)
	}
	return l
}

// splits keeps what was split: the same few values are asked for over and over.
var splits sync.Map

func split(c api.Config, value []byte) [][]byte {
	c.Delta = 0
	at := struct {
		c     api.Config
		value string
	}{c, string(value)}
	if all, has := splits.Load(at); has {
		return all.([][]byte)
	}
	coded, _ := code.New(c.N, c.K)
	all, e := stripe.Split(coded, value)
	if e != api.OK {
		panic(e)
	}
	splits.Store(at, all)
	return all
}

func valid(t api.Tag) bool {
	return t == api.Tag{} || t.Count >= 1 && t.Count <= 1<<62-1 && t.Client >= 1 && t.Client <= 65535
}

func (p *paper) takes(m api.Message) bool {
	if !p.busy || m.Client != p.id || m.Op != p.begun || m.Key != p.key || m.Server < 0 || m.Server >= p.c.N {
		return false
	}
	switch {
	case p.phase == 1:
		return m.Kind == 2 && valid(m.Top)
	case p.put && p.phase == 2:
		return m.Kind == 4 && m.Tag == p.tag
	case p.put:
		return m.Kind == 6 && m.Tag == p.tag
	}
	return m.Kind == 8 && m.Tag == p.tag && valid(m.Top)
}

func (p *paper) handle(m api.Message) reply {
	if !p.takes(m) {
		return reply{}
	}
	m.Data = bytes.Clone(m.Data)
	p.lines = append(p.lines, m)
	switch {
	case !p.met():
		return reply{}
	case p.phase == 1 && p.put:
		return p.choose()
	case p.phase == 1 && p.top() == api.Tag{}:
		return p.end(api.ErrAbsent, nil)
	case p.phase == 1:
		return reply{l: p.to(2, p.top())}
	case p.put && p.phase == 2:
		return reply{l: p.to(3, p.tag)}
	case p.put:
		return p.end(api.OK, nil)
	}
	return p.join()
}

// choose goes through all counters that come into question, from the least one on.
func (p *paper) choose() reply {
	top, used := p.top(), int64(0)
	for i, key := range p.keys {
		if key == p.key {
			used = max(used, p.counts[i])
		}
	}
	from := max(top.Count, used, 1)
	for count := from; count <= from+1 && count <= 1<<62-1; count++ {
		t := api.Tag{Count: count, Client: p.id}
		if above(t, top) && count > used {
			p.keys, p.counts = append(p.keys, p.key), append(p.counts, count)
			return reply{l: p.to(2, t)}
		}
	}
	return p.end(api.ErrFull, nil)
}

func (p *paper) join() reply {
	var parts []api.Part
	for server := range p.c.N {
		if _, given := p.answered(server); given != nil {
			parts = append(parts, api.Part{Index: server, Data: given.Data})
		}
	}
	if len(parts) >= p.c.K {
		coded, _ := code.New(p.c.N, p.c.K)
		value, e := stripe.Join(coded, parts[:p.c.K])
		return p.end(e, value)
	}
	if above(p.top(), p.tag) {
		return reply{l: p.to(2, p.top())}
	}
	return reply{}
}

// pair is a client and its paper.
type pair struct {
	c *client.Client
	p *paper
}

func newPair(t *testing.T, c api.Config, id int) pair {
	t.Helper()
	x, e := client.New(c, id)
	if x == nil || e != api.OK {
		t.Fatalf("L1: New of %v, %d is %v, %d", c, id, x, e)
	}
	return pair{x, &paper{c: c, id: id}}
}

func (a pair) copy() pair { return pair{a.c.Copy(), a.p.copy()} }

// act is one call.
type act struct {
	kind  int // 0 Put, 1 Get, 2 Cancel, 3 Handle
	key   string
	value []byte
	m     api.Message
}

func (a act) String() string {
	switch a.kind {
	case 0:
		return fmt.Sprintf("Put(%.9q, %d bytes)", a.key, len(a.value))
	case 1:
		return fmt.Sprintf("Get(%.9q)", a.key)
	case 2:
		return "Cancel"
	}
	return fmt.Sprintf("Handle(%+v)", a.m)
}

func (a act) real(c *client.Client) (r reply) {
	switch a.kind {
	case 0:
		r.op, r.l, r.e = c.Put(a.key, a.value)
	case 1:
		r.op, r.l, r.e = c.Get(a.key)
	case 2:
		r.r, r.e = c.Cancel()
	case 3:
		r.l, r.r, r.end = c.Handle(a.m)
	}
	return r
}

func (a act) told(p *paper) reply {
	switch a.kind {
	case 0:
		return p.begin(true, a.key, a.value)
	case 1:
		return p.begin(false, a.key, nil)
	case 2:
		return p.cancel()
	}
	return p.handle(a.m)
}

// bare is a message but for its data, which is compared as bytes.
type bare struct {
	kind, client, server int
	op                   int64
	key                  string
	tag, top             api.Tag
	has                  bool
}

func bareOf(m api.Message) bare {
	return bare{m.Kind, m.Client, m.Server, m.Op, m.Key, m.Tag, m.Top, m.Has}
}

func sameMessages(a, b []api.Message) bool {
	return slices.EqualFunc(a, b, func(a, b api.Message) bool {
		return bareOf(a) == bareOf(b) && bytes.Equal(a.Data, b.Data)
	})
}

func sameReply(a, b reply) bool {
	return a.op == b.op && a.end == b.end && a.e == b.e && sameMessages(a.l, b.l) && sameResult(a.r, b.r)
}

func sameResult(a, b api.Result) bool {
	return a.Op == b.Op && a.Put == b.Put && a.Status == b.Status && a.Tag == b.Tag && bytes.Equal(a.Value, b.Value)
}

// do does a call of both, and holds what they answer against each other, and what they have behind it.
func (a pair) do(t *testing.T, x act) reply {
	t.Helper()
	r := a.call(t, x)
	a.same(t, x)
	return r
}

func (a pair) call(t *testing.T, x act) reply {
	t.Helper()
	got, want := x.real(a.c), x.told(a.p)
	if !sameReply(got, want) {
		t.Fatalf("L1: %v of %v: %v is\n%+v, want\n%+v", a.p.c, a.p.id, x, got, want)
	}
	return want
}

func (a pair) same(t *testing.T, x act) {
	t.Helper()
	if got, want := a.c.Tick(), a.p.tick(); !sameMessages(got, want) {
		t.Fatalf("L1: %v of %v: behind %v Tick is\n%+v, want\n%+v", a.p.c, a.p.id, x, got, want)
	}
	want := now{e: api.ErrIdle}
	if p := a.p; p.busy {
		want = now{p.begun, p.put, p.key, p.tag, p.phase, api.OK}
	}
	if got := nowOf(a.c); got != want {
		t.Fatalf("L1: %v of %v: behind %v Now is %+v, want %+v", a.p.c, a.p.id, x, got, want)
	}
}

// now is what Now answers.
type now struct {
	op    int64
	put   bool
	key   string
	tag   api.Tag
	phase int
	e     api.Errno
}

func nowOf(c *client.Client) (n now) {
	n.op, n.put, n.key, n.tag, n.phase, n.e = c.Now()
	return n
}

// choices are the calls that come next in all short scripts: every kind of answer of every server with few tags, right and wrong ones.
func choices(p *paper) []act {
	list := []act{{kind: 0, key: "k", value: []byte("ab")}, {kind: 1, key: "k"}, {kind: 2}}
	m := api.Message{Client: p.id, Op: p.begun, Key: "k", Tag: p.tag}
	fragments := split(p.c, []byte("ab"))
	for server := range p.c.N {
		m.Server = server
		for _, top := range []api.Tag{{}, {Count: 1, Client: 9}, {Count: 2, Client: 1}} {
			m.Top = top
			for _, kind := range []int{api.Told, api.Gave} {
				m.Kind, m.Has, m.Data = kind, false, nil
				list = append(list, act{kind: 3, m: m})
			}
			m.Has, m.Data = true, fragments[server]
			list = append(list, act{kind: 3, m: m})
		}
		m.Top, m.Has, m.Data = api.Tag{}, false, nil
		for _, kind := range []int{api.Kept, api.Done} {
			m.Kind = kind
			list = append(list, act{kind: 3, m: m})
		}
	}
	return list
}

// moves tells whether a call would change anything.
func moves(p *paper, x act) bool {
	switch x.kind {
	case 2:
		return p.busy
	case 3:
		return p.takes(x.m)
	}
	return !p.busy
}

// quorumOf is answers alike of as many servers as make a quorum.
func (a pair) quorumOf(t *testing.T, m api.Message) {
	t.Helper()
	phase := a.p.phase
	for server := 0; a.p.phase == phase && a.p.busy; server++ {
		m.Client, m.Op, m.Key, m.Server = a.p.id, a.p.begun, a.p.key, server
		a.do(t, act{kind: 3, m: m})
	}
}

// roots are where all short scripts begin: with nothing under way, and in each phase.
func roots(t *testing.T, c api.Config) []pair {
	top := api.Tag{Count: 1, Client: 9}
	idle := newPair(t, c, 1)
	put := idle.copy()
	put.do(t, act{kind: 0, key: "k", value: []byte("cd")})
	put.quorumOf(t, api.Message{Kind: api.Told, Top: top})
	fin := put.copy()
	fin.quorumOf(t, api.Message{Kind: api.Kept, Tag: fin.p.tag})
	get := idle.copy()
	get.do(t, act{kind: 1, key: "k"})
	get.quorumOf(t, api.Message{Kind: api.Told, Top: top})
	return []pair{idle, put, fin, get}
}

// TestAllShortScripts: every script of so many calls that change something, with all that change nothing ahead of each of them; each branch goes on with a Copy, so that those must be alike too.
func TestAllShortScripts(t *testing.T) {
	nodes, ends := 0, map[string]int{}
	var down func(a pair, depth int)
	down = func(a pair, depth int) {
		nodes++
		list := choices(a.p)
		for _, x := range list {
			if !moves(a.p, x) {
				a.call(t, x)
			}
		}
		a.same(t, list[0])
		if depth == 0 {
			return
		}
		for _, x := range list {
			if moves(a.p, x) {
				b := a.copy()
				if r := b.do(t, x); r.end {
					ends[fmt.Sprint(r.r.Put, int(r.r.Status))]++
				}
				down(b, depth-1)
			}
		}
	}
	for _, x := range []struct{ n, k, depth int }{{1, 1, 5}, {2, 1, 4}, {2, 2, 4}, {3, 1, 4}, {3, 2, 4}, {4, 2, 3}} {
		for _, root := range roots(t, api.Config{N: x.n, K: x.k}) {
			down(root, x.depth)
		}
	}
	if nodes < 50000 || len(ends) < 3 || ends["true 0"] < 100 || ends["false 0"] < 100 || ends["false 76"] < 100 {
		t.Errorf("the test says little: %d, %v", nodes, ends)
	}
	t.Log(nodes, ends)
}

var tagsDrawn = []api.Tag{{}, {Count: 1, Client: 1}, {Count: 1, Client: 9}, {Count: 2, Client: 7}, {Count: 3, Client: 65535}, {Count: 1 << 40, Client: 2}, {Count: api.MaxCount - 1, Client: 9}, {Count: api.MaxCount, Client: 8}, {Count: api.MaxCount, Client: 65535},
	{Count: 0, Client: 1}, {Count: 1, Client: 0}, {Count: -1, Client: 4}, {Count: api.MaxCount + 1, Client: 1}, {Count: 5, Client: 65536}, {Count: 5, Client: -1}}

func pick[T any](rnd *rand.Rand, l []T) T { return l[rnd.IntN(len(l))] }

// drawTag is mostly a low one that may be.
func drawTag(rnd *rand.Rand) api.Tag {
	switch rnd.IntN(8) {
	case 0:
		return pick(rnd, tagsDrawn)
	case 1, 2:
		return api.Tag{}
	}
	return api.Tag{Count: 1 + rnd.Int64N(6), Client: 1 + rnd.IntN(9)}
}

// drawMessage is mostly an answer in the present phase, with one thing of it wrong at times.
func drawMessage(rnd *rand.Rand, p *paper, value []byte) api.Message {
	m := api.Message{Client: p.id, Server: rnd.IntN(p.c.N), Op: p.begun, Key: p.key, Tag: p.tag, Top: drawTag(rnd)}
	switch {
	case p.phase == 1 || rnd.IntN(10) == 0:
		m.Kind = api.Told
		m.Tag = drawTag(rnd)
	case p.put:
		m.Kind = api.Kept + 2*(p.phase-2)
	default:
		m.Kind = api.Gave
		if rnd.IntN(3) > 0 {
			m.Top = p.tag
		}
	}
	if rnd.IntN(3) > 0 {
		m.Has, m.Data = true, split(p.c, value)[m.Server]
	}
	switch rnd.IntN(24) {
	case 0:
		m.Client += rnd.IntN(3) - 1
	case 1:
		m.Server = rnd.IntN(p.c.N+4) - 2
	case 2:
		m.Op += rnd.Int64N(3) - 1
	case 3:
		m.Key = pick(rnd, keysDrawn)
	case 4:
		m.Tag = drawTag(rnd)
	case 5:
		m.Kind = rnd.IntN(11) - 1
	case 6:
		m.Has = !m.Has
	case 7:
		m.Data = make([]byte, rnd.IntN(9))
	case 8:
		m.Top = pick(rnd, tagsDrawn)
	}
	return m
}

var keysDrawn = []string{"k", "j", "\x00", string(bytes.Repeat([]byte{0xff}, 64)), "", string(make([]byte, 65))}

func drawAct(rnd *rand.Rand, p *paper, value []byte) act {
	roll := rnd.IntN(100)
	switch {
	case roll < 2 || !p.busy && roll < 40:
		return act{kind: 0, key: pick(rnd, keysDrawn), value: value}
	case roll < 4 || !p.busy && roll < 80:
		return act{kind: 1, key: pick(rnd, keysDrawn)}
	case roll < 6:
		return act{kind: 2}
	}
	return act{kind: 3, m: drawMessage(rnd, p, value)}
}

// drawConfig is mostly a small one.
func drawConfig(rnd *rand.Rand) api.Config {
	n := 1 + rnd.IntN(6)
	if rnd.IntN(12) == 0 {
		n = 1 + rnd.IntN(20)
	}
	return api.Config{N: n, K: 1 + rnd.IntN(n), Delta: rnd.IntN(3)}
}

// TestLongScripts: several clients of a config, some of them copies made in the midst, each told things of its own.
func TestLongScripts(t *testing.T) {
	rnd := rand.New(rand.NewPCG(18, 1))
	ends, anew, copies := map[string]int{}, 0, 0
	for range 2500 {
		c := drawConfig(rnd)
		pairs := []pair{newPair(t, c, 1+rnd.IntN(9)), newPair(t, c, 65535)}
		value := make([]byte, rnd.IntN(20))
		for i := range value {
			value[i] = byte(rnd.Uint32())
		}
		for range 200 {
			i := rnd.IntN(len(pairs))
			if rnd.IntN(25) == 0 {
				pairs[rnd.IntN(len(pairs))] = pairs[i].copy()
				copies++
				continue
			}
			before := *pairs[i].p
			r := pairs[i].do(t, drawAct(rnd, pairs[i].p, value))
			if r.end {
				ends[fmt.Sprint(r.r.Put, int(r.r.Status))]++
			}
			if before.busy && !before.put && before.phase == 2 && len(r.l) > 0 {
				anew++
			}
		}
	}
	for _, want := range []string{"true 0", "true 42", "false 0", "false 76", "false 23", "false 25", "false 24"} {
		if ends[want] < 5 {
			t.Errorf("the test says little: %v", ends)
			break
		}
	}
	if anew < 100 || copies < 1000 {
		t.Errorf("the test says little: %d begun anew, %d copies", anew, copies)
	}
	t.Log(ends, anew, copies)
}

// TestGreatConfigs: many servers and long values.
func TestGreatConfigs(t *testing.T) {
	rnd := rand.New(rand.NewPCG(18, 2))
	for _, c := range []api.Config{{N: 255, K: 1}, {N: 255, K: 255}, {N: 255, K: 85}, {N: 254, K: 3}, {N: 40, K: 13}} {
		a := newPair(t, c, 4)
		value := make([]byte, rnd.IntN(3000))
		for i := range value {
			value[i] = byte(rnd.Uint32())
		}
		for _, kind := range []int{0, 1} {
			a.do(t, act{kind: kind, key: "k", value: value})
			for i := 0; a.p.busy; i++ {
				m := drawMessage(rnd, a.p, value)
				a.call(t, act{kind: 3, m: m})
				if i%97 == 0 {
					a.same(t, act{kind: 3, m: m})
				}
			}
		}
	}
}

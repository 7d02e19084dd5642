package cluster_test

import (
	"bytes"
	"fmt"
	"slices"
	"strings"

	"sherd/api"
	"sherd/code"
	"sherd/disk"
	"sherd/frame"
	"sherd/server"
	"sherd/stripe"
)

// The chapter told a second time: a paper has servers on their disks, and of each client every tag that it ever chose and every answer that counted in the present phase, line by line as they came, gone through from one end for each question.

type paper struct {
	c       api.Config
	servers []*sheet
	clients []*person // of the numbers 1, 2, ..
	flight  []api.Packet
	history []api.Event
}

type sheet struct {
	head api.Head
	up   bool
	d    *disk.Disk
	s    *server.Server
	left int // acts until the disk stops; 0: it is not armed
	list []int
}

type person struct {
	c       api.Config
	id      int
	stopped bool
	begun   int64
	keys    []string // of each Put that chose a tag
	counts  []int64  // which counter that was
	busy    bool
	put     bool
	key     string
	value   []byte
	tag     api.Tag
	phase   int
	lines   []api.Message
}

func newPaper(c api.Config, clients int) *paper {
	p := &paper{c: c}
	for i := range c.N {
		s := &sheet{head: api.Head{Config: c, Server: i}, d: disk.New()}
		s.start()
		p.servers = append(p.servers, s)
	}
	for i := range clients {
		p.clients = append(p.clients, &person{c: c, id: i + 1})
	}
	return p
}

func (s *sheet) start() api.Errno {
	if s.up {
		return api.ErrUp
	}
	o, e := server.Open(s.head, s.d)
	s.s, s.up = o, e == api.OK
	return e
}

func (s *sheet) crash(choices []int) {
	s.d, s.s, s.up, s.left, s.list = s.d.Crash(choices), nil, false, 0, nil
}

// guard does something that acts on the disk, counts the acts down, and has the machine stop where they are at their end.
func (s *sheet) guard(f func() api.Errno) {
	before := s.d.Acts()
	if f() == api.ErrDead {
		var choices []int
		if len(s.list) > 1 {
			choices = s.list[1:]
		}
		s.crash(choices)
		return
	}
	if s.left > 0 {
		s.left -= s.d.Acts() - before
	}
}

func (s *sheet) die(b int, l []int) api.Errno {
	if !s.up {
		return api.ErrDown
	}
	if b < 0 {
		return api.ErrArg
	}
	s.left, s.list = b, slices.Clone(l)
	s.d.Stop(b, s.done())
	return api.OK
}

func (s *sheet) done() bool { return len(s.list) > 0 && s.list[0]&1 == 1 }

func above(a, b api.Tag) bool {
	return a.Count > b.Count || a.Count == b.Count && a.Client > b.Client
}

func (p *person) top() api.Tag {
	var top api.Tag
	for _, m := range p.lines {
		if above(m.Top, top) {
			top = m.Top
		}
	}
	return top
}

// answered tells whether a server has, and what it gave first.
func (p *person) answered(server int) (has bool, given *api.Message) {
	for i := range p.lines {
		if m := &p.lines[i]; m.Server == server {
			has = true
			if m.Has && given == nil {
				given = m
			}
		}
	}
	return has, given
}

func (p *person) met() bool {
	n := 0
	for server := range p.c.N {
		if has, _ := p.answered(server); has {
			n++
		}
	}
	return n+n >= p.c.N+p.c.K
}

func (p *person) tick() []api.Message {
	if !p.busy {
		return nil
	}
	var l []api.Message
	for server := range p.c.N {
		has, given := p.answered(server)
		if has && (given != nil || p.put || p.phase == 1) {
			continue
		}
		m := api.Message{Client: p.id, Server: server, Op: p.begun, Key: p.key, Tag: p.tag}
		switch fmt.Sprint(p.put, p.phase) {
		case "true 1", "false 1":
			m.Kind = 1
		case "true 2":
			m.Kind, m.Data = 3, fragment(p.c, p.value, server)
		case "true 3":
			m.Kind = 5
		case "false 2":
			m.Kind = 7
		}
		l = append(l, m)
	}
	return l
}

func fragment(c api.Config, value []byte, server int) []byte {
	o, _ := code.New(c.N, c.K)
	data, e := stripe.Cut(o, value, server)
	if e != api.OK {
		panic(e)
	}
	return data
}

func (p *person) to(phase int, t api.Tag) []api.Message {
	p.phase, p.tag, p.lines = phase, t, nil
	return p.tick()
}

func (p *person) end(status api.Errno, value []byte) *api.Event {
	p.busy = false
	return &api.Event{Kind: 2, Client: p.id, Op: p.begun, Put: p.put, Key: p.key, Status: status, Tag: p.tag, Value: value}
}

func (p *person) used(key string) int64 {
	most := int64(0)
	for i, k := range p.keys {
		if k == key && p.counts[i] > most {
			most = p.counts[i]
		}
	}
	return most
}

func (p *person) handle(m api.Message) ([]api.Message, *api.Event) {
	if !p.busy || m.Client != p.id || m.Op != p.begun || m.Key != p.key || m.Server >= p.c.N {
		return nil, nil
	}
	kinds := map[string]int{"true 1": 2, "false 1": 2, "true 2": 4, "true 3": 6, "false 2": 8}
	if m.Kind != kinds[fmt.Sprint(p.put, p.phase)] || p.phase > 1 && m.Tag != p.tag {
		return nil, nil
	}
	p.lines = append(p.lines, m)
	switch {
	case !p.met():
		return nil, nil
	case p.put && p.phase == 1:
		return p.choose()
	case p.put && p.phase == 2:
		return p.to(3, p.tag), nil
	case p.put:
		return nil, p.end(0, nil)
	case p.phase == 1 && p.top() == api.Tag{}:
		return nil, p.end(api.ErrAbsent, nil)
	case p.phase == 1:
		return p.to(2, p.top()), nil
	}
	return p.join()
}

func (p *person) choose() ([]api.Message, *api.Event) {
	t := api.Tag{Count: p.top().Count, Client: p.id}
	if !above(t, p.top()) {
		t.Count++
	}
	t.Count = max(t.Count, p.used(p.key)+1, 1)
	if t.Count > api.MaxCount {
		return nil, p.end(api.ErrFull, nil)
	}
	p.keys, p.counts = append(p.keys, p.key), append(p.counts, t.Count)
	return p.to(2, t), nil
}

func (p *person) join() ([]api.Message, *api.Event) {
	var parts []api.Part
	for server := range p.c.N {
		if _, given := p.answered(server); given != nil && len(parts) < p.c.K {
			parts = append(parts, api.Part{Index: server, Data: given.Data})
		}
	}
	if len(parts) == p.c.K {
		o, _ := code.New(p.c.N, p.c.K)
		value, e := stripe.Join(o, parts)
		return nil, p.end(e, value)
	}
	if above(p.top(), p.tag) {
		return p.to(2, p.top()), nil
	}
	return nil, nil
}

func (p *paper) send(l []api.Message) {
	for _, m := range l {
		data, e := frame.Encode(m)
		if e != api.OK {
			panic(e)
		}
		a, b := api.Node{Kind: 2, Id: m.Client}, api.Node{Kind: 1, Id: m.Server}
		if m.Kind%2 == 0 {
			a, b = b, a
		}
		p.flight = append(p.flight, api.Packet{From: a, To: b, Data: data})
	}
}

func (p *paper) came(e api.Event) []api.Event {
	p.history = append(p.history, e)
	return []api.Event{e}
}

func (p *paper) do(s api.Step) ([]api.Event, api.Errno) {
	switch {
	case s.Kind < 1 || s.Kind > 15:
		return nil, api.ErrKind
	case s.Kind <= 5 && (s.A < 1 || s.A > len(p.clients)):
		return nil, api.ErrNode
	case s.Kind >= 12 && (s.A < 0 || s.A > p.c.N-1):
		return nil, api.ErrNode
	case s.Kind <= 5:
		return p.clientStep(p.clients[s.A-1], s)
	case s.Kind >= 12:
		return nil, p.servers[s.A].step(s)
	case len(p.flight) == 0:
		return nil, api.ErrNone
	}
	return p.datagramStep(s, mod(s.A, len(p.flight)))
}

func mod(a, m int) int {
	for a %= m; a < 0; {
		a += m
	}
	return a
}

func (p *paper) clientStep(c *person, s api.Step) ([]api.Event, api.Errno) {
	if c.stopped {
		return nil, api.ErrDown
	}
	switch s.Kind {
	case 3:
		if !c.busy {
			return nil, api.ErrIdle
		}
		e := c.end(0, nil)
		e.Kind = 3
		if !c.put {
			e.Tag = api.Tag{}
		}
		return p.came(*e), api.OK
	case 4:
		p.send(c.tick())
		return nil, api.OK
	case 5:
		c.stopped = true
		return nil, api.OK
	}
	switch {
	case c.busy:
		return nil, api.ErrBusy
	case len(s.Key) < 1 || len(s.Key) > 64:
		return nil, api.ErrKey
	case s.Kind == 1 && len(s.Value) > 65536:
		return nil, api.ErrValue
	}
	c.begun++
	c.busy, c.put, c.key, c.value = true, s.Kind == 1, s.Key, nil
	if c.put {
		c.value = bytes.Clone(s.Value)
	}
	p.send(c.to(1, api.Tag{}))
	return p.came(api.Event{Kind: 1, Client: c.id, Op: c.begun, Put: c.put, Key: c.key, Value: c.value}), api.OK
}

func (s *sheet) step(x api.Step) api.Errno {
	switch x.Kind {
	case 13:
		return s.start()
	case 14:
		return s.die(x.B, x.L)
	}
	if !s.up {
		return api.ErrDown
	}
	if x.Kind == 12 {
		s.crash(x.L)
	} else {
		s.guard(func() api.Errno { return s.s.Compact() })
	}
	return api.OK
}

func (p *paper) datagramStep(s api.Step, i int) ([]api.Event, api.Errno) {
	g := p.flight[i]
	if (s.Kind == 9 || s.Kind == 10) && s.B < 0 {
		return nil, api.ErrArg
	}
	switch s.Kind {
	case 8:
		g.Data = bytes.Clone(g.Data)
		p.flight = append(p.flight, g)
	case 9:
		for j := range 32 {
			if len(s.L) > 0 && s.L[0]>>j&1 == 1 && s.B/8 < len(g.Data) && (s.B+j)/8 < len(g.Data) {
				g.Data[(s.B+j)/8] ^= 1 << ((s.B + j) % 8)
			}
		}
	case 10:
		p.flight[i].Data = g.Data[:min(len(g.Data), s.B)]
	case 11:
		p.flight[i].Lost = true
	default:
		p.flight = slices.Delete(p.flight, i, i+1)
	}
	if s.Kind != 6 || g.Lost {
		return nil, api.OK
	}
	m, e := frame.Decode(g.Data)
	if e != api.OK {
		return nil, api.OK
	}
	return p.deliver(g.To, m), api.OK
}

func (p *paper) deliver(to api.Node, m api.Message) []api.Event {
	if to.Kind == 1 && to.Id < p.c.N && p.servers[to.Id].up {
		p.servers[to.Id].guard(func() api.Errno {
			l, e := p.servers[to.Id].s.Handle(m)
			p.send(l)
			return e
		})
	}
	if to.Kind == 2 && to.Id <= len(p.clients) && !p.clients[to.Id-1].stopped {
		l, e := p.clients[to.Id-1].handle(m)
		p.send(l)
		if e != nil {
			return p.came(*e)
		}
	}
	return nil
}

func dash(s string) string {
	if s == "" {
		return "-"
	}
	return s
}

func tagText(t api.Tag) string { return fmt.Sprintf("%d.%d", t.Count, t.Client) }

func (s *sheet) text() string {
	slots, current := s.d.Slots()
	text := fmt.Sprintf("server %d %s %d %s %s", s.head.Server, map[bool]string{true: "up", false: "down"}[s.up], current, dash(fmt.Sprintf("%x", slots[0])), dash(fmt.Sprintf("%x", slots[1])))
	if s.up && s.left > 0 {
		done := 0
		if s.done() {
			done = 1
		}
		var choices []string
		for i, v := range s.list {
			if i > 0 {
				choices = append(choices, fmt.Sprint(v))
			}
		}
		text += fmt.Sprintf(" stop %d %d %s", s.left, done, dash(strings.Join(choices, ",")))
	}
	return text + "\n"
}

func (p *person) text() string {
	if p.stopped {
		return fmt.Sprintf("client %d stopped\n", p.id)
	}
	var used []string
	for _, key := range slices.Compact(slices.Sorted(slices.Values(p.keys))) {
		used = append(used, fmt.Sprintf("%x:%d", key, p.used(key)))
	}
	text := fmt.Sprintf("client %d %d %s", p.id, p.begun, dash(strings.Join(used, ",")))
	if !p.busy {
		return text + "\n"
	}
	if p.put {
		text += fmt.Sprintf(" put %x %s", p.key, dash(fmt.Sprintf("%x", p.value)))
	} else {
		text += fmt.Sprintf(" get %x", p.key)
	}
	var answers []string
	for server := range p.c.N {
		has, given := p.answered(server)
		if given != nil {
			answers = append(answers, fmt.Sprintf("%d:%s", server, dash(fmt.Sprintf("%x", given.Data))))
		} else if has {
			answers = append(answers, fmt.Sprint(server))
		}
	}
	return text + fmt.Sprintf(" %d %s %s %s\n", p.phase, tagText(p.tag), tagText(p.top()), dash(strings.Join(answers, ",")))
}

func (p *paper) state() string {
	var b strings.Builder
	fmt.Fprintf(&b, "config %d %d %d %d\n", p.c.N, p.c.K, p.c.Delta, len(p.clients))
	for _, s := range p.servers {
		b.WriteString(s.text())
	}
	for _, c := range p.clients {
		b.WriteString(c.text())
	}
	for _, g := range p.flight {
		fmt.Fprintf(&b, "datagram from %c%d to %c%d %s", " sc"[g.From.Kind], g.From.Id, " sc"[g.To.Kind], g.To.Id, dash(fmt.Sprintf("%x", g.Data)))
		if g.Lost {
			b.WriteString(" lost")
		}
		b.WriteString("\n")
	}
	return b.String()
}

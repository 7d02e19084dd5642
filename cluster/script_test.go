package cluster_test

import (
	"encoding/binary"
	"math"
	"math/rand/v2"

	"sherd/api"
	"sherd/frame"
)

// mood is what kinds of steps come, and how often: each number is a weight.
type mood struct {
	ops, ticks, cancels, stops     int
	delivers                       int
	drops, doubles, spoils, losses int
	crashes, starts, dies, smalls  int
	wrong, forged                  int
	keys, values                   []string
}

func calm() mood {
	return mood{ops: 30, ticks: 5, cancels: 1, delivers: 150, starts: 1, keys: []string{"k", "j"}, values: []string{"", "x", "value", "another value"}}
}

func wild() mood {
	m := calm()
	m.drops, m.doubles, m.spoils, m.losses = 2, 3, 3, 1
	m.crashes, m.starts, m.dies, m.smalls = 1, 12, 2, 1
	return m
}

// script draws steps that fit what the paper is at.
type script struct {
	*rand.Rand
	mood
	p *paper
}

// next is a few steps that belong together, most often one.
func (s *script) next() []api.Step {
	weights := []int{s.ops, s.ticks, s.cancels, s.stops, s.delivers, s.drops, s.doubles, s.spoils, s.losses, s.crashes, s.starts, s.dies, s.smalls, s.wrong, s.forged}
	all := 0
	for _, w := range weights {
		all += w
	}
	at, pick := 0, s.IntN(all)
	for pick >= weights[at] {
		pick -= weights[at]
		at++
	}
	a := 1 + s.IntN(max(len(s.p.clients), 1))
	b := s.IntN(s.p.c.N)
	for at == 10 && s.p.servers[b].up && s.IntN(9) > 0 {
		b = s.IntN(s.p.c.N)
	}
	d := s.IntN(1<<20) - 1<<19
	switch at {
	case 0:
		return []api.Step{s.op(a)}
	case 1:
		return []api.Step{{Kind: api.STick, A: a}}
	case 2:
		return []api.Step{{Kind: api.SCancel, A: a}}
	case 3:
		return []api.Step{{Kind: api.SStop, A: a}}
	case 4, 5, 6, 8:
		return []api.Step{{Kind: map[int]int{4: api.SDeliver, 5: api.SDrop, 6: api.SDouble, 8: api.SLose}[at], A: d}}
	case 7:
		return []api.Step{s.spoil(d)}
	case 9:
		return []api.Step{{Kind: api.SCrash, A: b, L: s.list()}}
	case 10:
		return []api.Step{{Kind: api.SStart, A: b}}
	case 11:
		return []api.Step{{Kind: api.SDie, A: b, B: s.IntN(8), L: s.list()}}
	case 12:
		return []api.Step{{Kind: api.SCompact, A: b}}
	case 13:
		return []api.Step{s.junk()}
	}
	return s.forge()
}

func (s *script) op(a int) api.Step {
	x := api.Step{Kind: api.SGet, A: a, Key: s.keys[s.IntN(len(s.keys))]}
	if s.IntN(2) == 0 {
		x.Kind, x.Value = api.SPut, []byte(s.values[s.IntN(len(s.values))])
	}
	return x
}

func (s *script) list() []int {
	l := make([]int, s.IntN(5))
	for i := range l {
		l[i] = s.IntN(60) - 20
	}
	return l
}

// spoil is a burst or a cut, sometimes one that changes nothing.
func (s *script) spoil(d int) api.Step {
	bits := 8
	if n := len(s.p.flight); n > 0 {
		bits = 8*len(s.p.flight[mod(d, n)].Data) + 2
	}
	if s.IntN(3) == 0 {
		return api.Step{Kind: api.SCut, A: d, B: s.IntN(bits/8 + 2)}
	}
	pattern := []uint32{1, 3, math.MaxUint32, 1<<31 | 1, s.Uint32(), s.Uint32() & 0xff, 0}[s.IntN(7)]
	return api.Step{Kind: api.SBurst, A: d, B: s.IntN(bits), L: []int{int(pattern)}}
}

// junk is any step at all, most often a wrong one, with fields that its kind doesn't use.
func (s *script) junk() api.Step {
	number := func() int {
		return []int{0, 1, -1, 2, s.IntN(8), -s.IntN(8), 255, 256, math.MaxInt, math.MinInt, int(s.Uint64())}[s.IntN(11)]
	}
	x := api.Step{Kind: 1 + s.IntN(15), A: number(), B: number(), Key: s.keys[s.IntN(len(s.keys))], Value: []byte("junk"), L: []int{number(), number()}}
	switch s.IntN(8) {
	case 0:
		x.Kind = []int{0, -1, 16, 17, math.MaxInt, math.MinInt}[s.IntN(6)]
	case 1:
		x.Key = ""
	case 2:
		x.Key = string(make([]byte, 64+s.IntN(3)))
	case 3:
		x.Value = make([]byte, api.MaxValue+s.IntN(3))
	case 4:
		x.L = nil
	}
	if x.Kind == api.SStop && s.IntN(4) > 0 {
		x.Kind = api.STick
	}
	return x
}

// forge makes of a datagram in flight, by a cut and many bursts, that of another message.
func (s *script) forge() []api.Step {
	if len(s.p.flight) == 0 {
		return nil
	}
	for range 20 {
		a := s.IntN(len(s.p.flight))
		g := s.p.flight[a]
		data, e := frame.Encode(s.message(g.To))
		if e == api.OK && len(data) <= len(g.Data) {
			return append(turnInto(a, g.Data, data), api.Step{Kind: api.SDeliver, A: a})
		}
	}
	return nil
}

// turnInto is the steps that make one datagram's bytes others, no more of them.
func turnInto(a int, from, to []byte) []api.Step {
	steps := []api.Step{{Kind: api.SCut, A: a, B: len(to)}}
	for i := 0; i < len(to); i += 4 {
		var x, y [4]byte
		copy(x[:], from[i:len(to)])
		copy(y[:], to[i:])
		pattern := binary.LittleEndian.Uint32(x[:]) ^ binary.LittleEndian.Uint32(y[:])
		steps = append(steps, api.Step{Kind: api.SBurst, A: a, B: 8 * i, L: []int{int(pattern)}})
	}
	return steps
}

// message is one that would make some trouble at that node: most often nearly what it waits for.
func (s *script) message(to api.Node) api.Message {
	tags := []api.Tag{{}, {Count: 1, Client: 1}, {Count: 2, Client: 2}, {Count: 9, Client: 65535}, {Count: api.MaxCount, Client: 1}, {Count: api.MaxCount, Client: 3}}
	m := api.Message{Kind: 1 + s.IntN(8), Client: 1 + s.IntN(len(s.p.clients)+1), Server: s.IntN(s.p.c.N + 1), Op: 1 + s.Int64N(3), Key: s.keys[s.IntN(len(s.keys))], Tag: tags[s.IntN(6)], Top: tags[s.IntN(6)], Has: s.IntN(2) == 0}
	if s.IntN(8) == 0 {
		m.Client = 65535
	}
	if to.Kind == api.NClient && to.Id <= len(s.p.clients) && s.IntN(8) > 0 {
		c := s.p.clients[to.Id-1]
		m.Kind, m.Client, m.Op, m.Key, m.Tag = 2*c.phase, c.id, c.begun, c.key, c.tag
		if !c.put && c.phase == 2 {
			m.Kind = api.Gave
		}
		if c.put && c.phase == 1 && s.IntN(2) == 0 {
			m.Top = tags[5]
		}
	}
	if to.Kind == api.NServer && s.IntN(8) > 0 {
		m.Server, m.Kind = to.Id, 1+2*s.IntN(4)
	}
	m.Data = make([]byte, s.IntN(4))
	switch m.Kind {
	case api.Ask, api.Told:
		m.Tag, m.Has, m.Data = api.Tag{}, false, nil
	case api.Pre:
		m.Has = false
	case api.Gave:
		if !m.Has {
			m.Data = nil
		}
	default:
		m.Has, m.Data = false, nil
	}
	if m.Kind != api.Told && m.Kind != api.Gave {
		m.Top = api.Tag{}
	}
	return m
}

package client

import (
	"bytes"
	"slices"

	"sherd/api"
	"sherd/phase"
	"sherd/tag"
)

// step is a phase of an operation: who has answered in it, and what.
type step interface {
	number() int                          // from 1 on
	counts(m api.Message, t api.Tag) bool // whether it is an answer in this phase of an operation with the tag t
	take(m api.Message)                   // one that counts
	Met() bool
	again() []int             // whom a tick asks, rising
	second(c api.Config) step // the same, with answers of its own
}

// heard is who has answered, where it is nobody's business what.
type heard struct {
	*phase.Phase[struct{}]
}

func newHeard(c api.Config) heard { return heard{newPhase[struct{}](c)} }

func (h heard) take(m api.Message) { h.Answer(m.Server, struct{}{}) }

func (h heard) again() []int { return h.Missing() }

func (h heard) copied(c api.Config) heard { return heard{copyOf(c, h.Phase)} }

// ask is the first phase of both: which is the highest finalized tag?
type ask struct {
	heard
	top api.Tag // the highest that was told; of a server that told several each one counts
}

func (p *ask) number() int { return 1 }

func (p *ask) counts(m api.Message, t api.Tag) bool { return m.Kind == api.Told && tag.Valid(m.Top) }

func (p *ask) take(m api.Message) {
	p.heard.take(m)
	p.top = tag.Max(p.top, m.Top)
}

func (p *ask) second(c api.Config) step { return &ask{p.copied(c), p.top} }

// pre is a Put's second phase: each server is sent its fragment.
type pre struct {
	heard
}

func (p *pre) number() int { return 2 }

func (p *pre) counts(m api.Message, t api.Tag) bool { return m.Kind == api.Kept && m.Tag == t }

func (p *pre) second(c api.Config) step { return &pre{p.copied(c)} }

// fin is a Put's third phase: the tag is finalized.
type fin struct {
	heard
}

func (p *fin) number() int { return 3 }

func (p *fin) counts(m api.Message, t api.Tag) bool { return m.Kind == api.Done && m.Tag == t }

func (p *fin) second(c api.Config) step { return &fin{p.copied(c)} }

// read is a Get's second phase: the tag is finalized, and its fragments are asked for.
type read struct {
	*phase.Phase[gift]
	top api.Tag // as of ask
}

// gift is the first fragment that a server gave, if it gave one.
type gift struct {
	has  bool
	data []byte // only read, so that copies share it
}

func newRead(c api.Config) *read { return &read{Phase: newPhase[gift](c)} }

func (p *read) number() int { return 2 }

func (p *read) counts(m api.Message, t api.Tag) bool {
	return m.Kind == api.Gave && m.Tag == t && tag.Valid(m.Top)
}

func (p *read) take(m api.Message) {
	given, _ := p.Get(m.Server)
	if m.Has && !given.has {
		given = gift{true, bytes.Clone(m.Data)}
	}
	p.Answer(m.Server, given)
	p.top = tag.Max(p.top, m.Top)
}

// again has those too that gave nothing: a fragment may have come to them since.
func (p *read) again() []int {
	servers := p.Missing()
	for server, given := range p.Each {
		if !given.has {
			servers = append(servers, server)
		}
	}
	slices.Sort(servers)
	return servers
}

// lowest is the fragments of the k lowest servers that gave one: fewer, if fewer did.
func (p *read) lowest(k int) []api.Part {
	var parts []api.Part
	for server, given := range p.Each {
		if given.has && len(parts) < k {
			parts = append(parts, api.Part{Index: server, Data: given.data})
		}
	}
	return parts
}

func (p *read) second(c api.Config) step { return &read{copyOf(c, p.Phase), p.top} }

// newPhase is a phase of a config that may be.
func newPhase[T any](c api.Config) *phase.Phase[T] {
	p, _ := phase.New[T](c)
	return p
}

func copyOf[T any](c api.Config, p *phase.Phase[T]) *phase.Phase[T] {
	second := newPhase[T](c)
	for server, v := range p.Each {
		second.Answer(server, v)
	}
	return second
}

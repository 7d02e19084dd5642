package explore

import (
	"bytes"
	"slices"

	"sherd/api"
)

func isOwn(s api.Step) bool {
	switch s.Kind {
	case api.SPut, api.SGet, api.SCancel, api.STick, api.SStop:
		return true
	}
	return false
}

func same(a, b api.Step) bool {
	return a.Kind == b.Kind && a.A == b.A && a.B == b.B && a.Key == b.Key && bytes.Equal(a.Value, b.Value) && slices.Equal(a.L, b.L)
}

// second is a step like it, with lists of its own.
func second(s api.Step) api.Step {
	s.Value, s.L = bytes.Clone(s.Value), slices.Clone(s.L)
	return s
}

// choices goes through what may be done, in order, and with it through those of the clients' own steps that the cluster would refuse: who does them finds out.
func (p *point) choices(yield func(api.Step) bool) {
	if p.steps == p.plan.Depth {
		return
	}
	for _, some := range []func() []api.Step{p.ofClients, p.ofDatagrams, p.ofServers} { // one by one: to go through the flight is dear
		for _, s := range some() {
			if !yield(s) {
				return
			}
		}
	}
}

func (p *point) ofClients() []api.Step {
	var steps []api.Step
	for i, own := range p.plan.Clients {
		if done := p.own[i]; done < len(own) {
			steps = append(steps, own[done])
		}
	}
	return steps
}

// datagram is one in flight, as a value that can be compared.
type datagram struct {
	from, to api.Node
	data     string
	lost     bool
}

func (p *point) ofDatagrams() []api.Step {
	var delivers, drops []api.Step
	ahead := map[datagram]struct{}{}
	for i, d := range p.cluster().Flight() {
		one := datagram{d.From, d.To, string(d.Data), d.Lost}
		if _, again := ahead[one]; again {
			continue
		}
		ahead[one] = struct{}{}
		delivers = append(delivers, api.Step{Kind: api.SDeliver, A: i})
		if p.drops < p.plan.Drops {
			drops = append(drops, api.Step{Kind: api.SDrop, A: i})
		}
	}
	return append(delivers, drops...)
}

func (p *point) ofServers() []api.Step {
	var crashes, starts []api.Step
	for i := range p.plan.Config.N {
		switch {
		case !p.cluster().Up(i):
			starts = append(starts, api.Step{Kind: api.SStart, A: i})
		case p.crashes < p.plan.Crashes:
			crashes = append(crashes, api.Step{Kind: api.SCrash, A: i})
		}
	}
	return append(crashes, starts...)
}

// offers tells whether a step is among the choices.
func (p *point) offers(s api.Step) bool {
	for one := range p.choices {
		if same(one, s) {
			return true
		}
	}
	return false
}

// taken is the choices that the cluster takes.
func (p *point) taken() []api.Step {
	var steps []api.Step
	other := p.cluster().Copy() // one for all of them: what a client is answered doesn't hang on other clients' steps
	for s := range p.choices {
		if isOwn(s) {
			if _, e := other.Do(s); e != api.OK {
				continue
			}
		}
		steps = append(steps, second(s))
	}
	return steps
}

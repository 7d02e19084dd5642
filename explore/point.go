package explore

import (
	"slices"

	"sherd/api"
	"sherd/cluster"
)

// point is what there is behind some steps of a plan.
type point struct {
	plan    *Plan
	made    *cluster.Cluster // nil: not made yet, or let go
	steps   int
	own     []int // of each client, how many of its own steps were done
	drops   int
	crashes int

	// In a search:
	from *point   // the point ahead of the last step; nil, if there was no step
	by   api.Step // the last step
	past int      // the number of its history
}

// begin is the point without steps, if the plan may be.
func begin(p Plan) (*point, api.Errno) {
	c, e := cluster.New(p.Config, len(p.Clients)) // it takes just the configs and the numbers of clients that may be
	if e != api.OK || min(p.Depth, p.Drops, p.Crashes) < 0 {
		return nil, api.ErrArg
	}
	for i, own := range p.Clients {
		if slices.ContainsFunc(own, func(s api.Step) bool { return s.A != i+1 || !isOwn(s) }) {
			return nil, api.ErrArg
		}
	}
	return &point{plan: &p, made: c, own: make([]int, len(p.Clients))}, api.OK
}

// cluster is made when it is asked for, of that of the point ahead: of the last level, the widest, most are never asked for, and all at a time would take much room.
func (p *point) cluster() *cluster.Cluster {
	if p.made == nil {
		p.made = p.from.cluster().Copy()
		p.made.Do(p.by) // the same cluster took it when the point was found
	}
	return p.made
}

// do does a step that is offered; one that is refused changes nothing.
func (p *point) do(s api.Step) ([]api.Event, api.Errno) {
	es, e := p.cluster().Do(s)
	if e != api.OK {
		return nil, e
	}
	p.steps++
	switch {
	case isOwn(s):
		p.own[s.A-1]++
	case s.Kind == api.SDrop:
		p.drops++
	case s.Kind == api.SCrash:
		p.crashes++
	}
	return es, api.OK
}

// after is the point one step further, and the events that the step brought.
func (p *point) after(s api.Step) (*point, []api.Event, api.Errno) {
	to := *p
	to.from, to.by = p, s
	to.own, to.made = slices.Clone(p.own), p.cluster().Copy()
	es, e := to.do(s)
	return &to, es, e
}

// path is the steps that lead here.
func (p *point) path() []api.Step {
	steps := make([]api.Step, p.steps)
	for ; p.from != nil; p = p.from {
		steps[p.steps-1] = second(p.by)
	}
	return steps
}

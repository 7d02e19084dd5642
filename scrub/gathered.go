package scrub

import (
	"cmp"
	"slices"
	"strings"

	"sherd/api"
	"sherd/code"
	"sherd/quorum"
	"sherd/stripe"
	"sherd/tag"
)

// place is what a finding is of.
type place struct {
	key string
	tag api.Tag
}

// share is what the servers have of a place.
type share struct {
	parts []api.Part // by rising servers; their bytes are the caller's, and are only read
	fin   []int
}

// gathered is what all tables have, put together.
type gathered struct {
	code   *code.Code
	shares map[place]share
}

// gather refuses what may not be looked at.
func gather(c api.Config, tables [][]api.Held) (gathered, api.Errno) {
	if e := quorum.Check(c); e != api.OK {
		return gathered{}, e
	}
	if len(tables) != c.N {
		return gathered{}, api.ErrShape
	}
	for _, table := range tables {
		if !mayBe(table, c.Delta) {
			return gathered{}, api.ErrForm
		}
	}
	made, _ := code.New(c.N, c.K) // it takes every config that may be
	g := gathered{code: made, shares: map[place]share{}}
	for server, table := range tables {
		g.add(server, table)
	}
	return g, api.OK
}

// add takes a server's table in; the servers come by rising numbers.
func (g gathered) add(server int, table []api.Held) {
	for _, h := range table {
		for _, e := range h.Entries {
			at := place{h.Key, e.Tag}
			s := g.shares[at]
			if e.Has {
				s.parts = append(s.parts, api.Part{Index: server, Data: e.Data})
			}
			if e.Fin {
				s.fin = append(s.fin, server)
			}
			g.shares[at] = s
		}
	}
}

// places sorts what the map gives in any order.
func (g gathered) places() []place {
	all := make([]place, 0, len(g.shares))
	for at := range g.shares {
		all = append(all, at)
	}
	slices.SortFunc(all, func(a, b place) int {
		return cmp.Or(strings.Compare(a.key, b.key), tag.Compare(a.tag, b.tag))
	})
	return all
}

// fragment is the one that a server would have of a place, whether it has one or not; an error, where the place's value can't be made.
func (g gathered) fragment(at place, server int) ([]byte, api.Errno) {
	value, _, e := stripe.Mend(g.code, g.shares[at].parts)
	if e != api.OK {
		return nil, e
	}
	return stripe.Cut(g.code, value, server)
}

func (s share) has() []int {
	servers := make([]int, len(s.parts))
	for i, p := range s.parts {
		servers[i] = p.Index
	}
	return servers
}

func (s share) isAt(server int) bool {
	return slices.ContainsFunc(s.parts, func(p api.Part) bool { return p.Index == server })
}

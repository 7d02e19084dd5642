package quorum_test

import (
	"math"
	"math/rand"
	"slices"
	"testing"

	"sherd/api"
	"sherd/quorum"
)

// model: a set told by the chapter's words: a flag for each server of the config.
type model struct {
	config api.Config
	in     []bool
}

func newModel(c api.Config) model { return model{c, make([]bool, c.N)} }

func (m model) list(in bool) []int {
	var l []int
	for server, x := range m.in {
		if x == in {
			l = append(l, server)
		}
	}
	return l
}

func (m model) and(o model) model {
	both := newModel(m.config)
	for server := range both.in {
		both.in[server] = m.in[server] && o.in[server]
	}
	return both
}

func (m model) copy() model { return model{m.config, slices.Clone(m.in)} }

func mustNew(t *testing.T, c api.Config) *quorum.Set {
	t.Helper()
	s, e := quorum.New(c)
	if e != api.OK || s == nil {
		t.Fatalf("P9.3: New(%v): %v, %d", c, s, e)
	}
	return s
}

// setOf: the config's set of these.
func setOf(t *testing.T, c api.Config, servers ...int) *quorum.Set {
	t.Helper()
	s := mustNew(t, c)
	for _, server := range servers {
		if _, e := s.Add(server); e != api.OK {
			t.Fatalf("P9.3: Add(%d) of %v answers %d", server, c, e)
		}
	}
	return s
}

// made: the set and the model of the servers whose bits are in mask.
func made(t *testing.T, c api.Config, mask int) (*quorum.Set, model) {
	t.Helper()
	s, m := mustNew(t, c), newModel(c)
	for server := range c.N {
		if mask>>server&1 == 1 {
			m.in[server] = true
			s.Add(server)
		}
	}
	return s, m
}

// noServers: numbers that no config of n servers has.
func noServers(n int) []int {
	return []int{math.MinInt, math.MinInt + 64, -1 << 32, -256, -255, -64, -1, n, n + 1, n + 63, n + 64, n + 256, 255, 256, 300, 1 << 32, math.MaxInt}
}

// checkSet asks all that can be asked of a set without changing it.
func checkSet(t *testing.T, s *quorum.Set, m model) {
	t.Helper()
	list, rest := m.list(true), m.list(false)
	if got := s.Len(); got != len(list) {
		t.Fatalf("P9.3: Len of %v, %v is %d", m.config, list, got)
	}
	if got := s.List(); !slices.Equal(got, list) {
		t.Fatalf("P9.3: List of %v is %v, want %v", m.config, got, list)
	}
	if got := s.Rest(); !slices.Equal(got, rest) {
		t.Fatalf("P9.3: Rest of %v is %v, want %v", m.config, got, rest)
	}
	for server, in := range m.in {
		if s.Has(server) != in {
			t.Fatalf("P9.3: Has(%d) of %v, %v is %v", server, m.config, list, !in)
		}
	}
	for _, server := range noServers(m.config.N) {
		if s.Has(server) {
			t.Fatalf("P9.3: Has(%d) of %v is true", server, m.config)
		}
	}
	if got, want := s.Met(), len(list) >= leastQuorum(m.config.N, m.config.K); got != want {
		t.Fatalf("P9.3: Met of %v, %v is %v", m.config, list, got)
	}
	if got, want := s.Met(), len(rest) <= roundedDown(m.config.N-m.config.K); got != want {
		t.Fatalf("P9.5: Met of %v is %v with %d in Rest", m.config, got, len(rest))
	}
}

func TestSetExamples(t *testing.T) {
	c := api.Config{N: 4, K: 2, Delta: 1}
	s := mustNew(t, c)
	checkSet(t, s, newModel(c))
	for _, x := range []struct {
		server int
		fresh  bool
		e      api.Errno
	}{{2, true, api.OK}, {2, false, api.OK}, {4, false, api.ErrNode}, {-1, false, api.ErrNode}, {0, true, api.OK}, {3, true, api.OK}} {
		if fresh, e := s.Add(x.server); fresh != x.fresh || e != x.e {
			t.Errorf("P9.3: Add(%d) is %v, %d, want %v, %d", x.server, fresh, e, x.fresh, x.e)
		}
	}
	checkSet(t, s, model{c, []bool{true, false, true, true}})
	both, e := s.And(setOf(t, c, 1, 2, 3))
	if e != api.OK {
		t.Fatalf("P9.3: And answers %d", e)
	}
	checkSet(t, both, model{c, []bool{false, false, true, true}})
}

// TestAllSmallSets: every set of every config of up to six servers, each added to in full, from empty on.
func TestAllSmallSets(t *testing.T) {
	for n := 1; n <= 6; n++ {
		for k := 1; k <= n; k++ {
			for mask := range 1 << n {
				c := api.Config{N: n, K: k, Delta: mask % 3}
				s, m := made(t, c, mask)
				checkSet(t, s, m)
				for server := range n {
					once, once2 := s.Copy(), m.copy()
					if fresh, e := once.Add(server); fresh == m.in[server] || e != api.OK {
						t.Fatalf("P9.3: Add(%d) of %v is %v, %d", server, m.list(true), fresh, e)
					}
					once2.in[server] = true
					checkSet(t, once, once2)
					if fresh, e := once.Add(server); fresh || e != api.OK {
						t.Fatalf("P9.3: Add(%d) once more is %v, %d", server, fresh, e)
					}
					checkSet(t, once, once2)
				}
				for _, server := range noServers(n) {
					if fresh, e := s.Add(server); fresh || e != api.ErrNode {
						t.Fatalf("P9.3: Add(%d) of %v is %v, %d, want ErrNode", server, c, fresh, e)
					}
				}
				checkSet(t, s, m)
			}
		}
	}
}

// TestAllSmallPairs: And of each two sets of up to five servers; where both are met, P9.5's number too, and that some two come down to it.
func TestAllSmallPairs(t *testing.T) {
	for n := 1; n <= 5; n++ {
		for k := 1; k <= n; k++ {
			c := api.Config{N: n, K: k}
			common, _ := quorum.Common(c)
			least := n + 1
			for left := range 1 << n {
				for right := range 1 << n {
					a, am := made(t, c, left)
					b, bm := made(t, c, right)
					both, e := a.And(b)
					if e != api.OK {
						t.Fatalf("P9.3: And answers %d", e)
					}
					checkSet(t, both, am.and(bm))
					checkSet(t, a, am)
					checkSet(t, b, bm)
					if a.Met() && b.Met() {
						least = min(least, both.Len())
					}
				}
			}
			if least != common {
				t.Errorf("P9.5: two quorums of %v share %d at least, Common is %d", c, least, common)
			}
		}
	}
}

// TestQuorumsOfAllConfigs: of each config that may be, a set that grows server by server to a quorum, and the two quorums that lie furthest apart.
func TestQuorumsOfAllConfigs(t *testing.T) {
	for n := 1; n <= 255; n++ {
		for k := 1; k <= n; k++ {
			c := api.Config{N: n, K: k, Delta: n}
			size, _ := quorum.Size(c)
			down, _ := quorum.Down(c)
			common, _ := quorum.Common(c)
			low, high := mustNew(t, c), mustNew(t, c)
			for i := range size {
				if low.Met() || high.Met() {
					t.Fatalf("P9.5: %v is met by %d", c, i)
				}
				low.Add(i)
				high.Add(n - 1 - i)
			}
			if !low.Met() || !high.Met() || len(low.Rest()) != down {
				t.Fatalf("P9.5: %v is not met by %d, with %d in Rest", c, size, len(low.Rest()))
			}
			both, e := low.And(high)
			if e != api.OK || both.Len() != common {
				t.Fatalf("P9.5: the furthest quorums of %v share %d, %d, Common is %d", c, both.Len(), e, common)
			}
		}
	}
}

// TestRandomSets: many steps with sets of great configs, each beside its model, some of them copies and Ands of others.
func TestRandomSets(t *testing.T) {
	r := rand.New(rand.NewSource(9))
	for range 60 {
		n := []int{1, 2, 63, 64, 65, 127, 128, 129, 191, 192, 193, 254, 255, 1 + r.Intn(255)}[r.Intn(14)]
		c := api.Config{N: n, K: 1 + r.Intn(n), Delta: r.Intn(3)}
		common, _ := quorum.Common(c)
		sets, models := []*quorum.Set{mustNew(t, c)}, []model{newModel(c)}
		for range 800 {
			i, o := r.Intn(len(sets)), r.Intn(len(sets))
			switch r.Intn(20) {
			case 0:
				if len(sets) < 6 {
					sets, models = append(sets, sets[i].Copy()), append(models, models[i].copy())
				}
			case 1:
				both, e := sets[i].And(sets[o])
				if e != api.OK {
					t.Fatalf("P9.3: And answers %d", e)
				}
				want := models[i].and(models[o])
				checkSet(t, both, want)
				if sets[i].Met() && sets[o].Met() && both.Len() < common {
					t.Fatalf("P9.5: two quorums of %v share %d, Common is %d", c, both.Len(), common)
				}
				if r.Intn(4) == 0 {
					sets[o], models[o] = both, want
				}
			default:
				server := r.Intn(n)
				if fresh, e := sets[i].Add(server); fresh == models[i].in[server] || e != api.OK {
					t.Fatalf("P9.3: Add(%d) is %v, %d", server, fresh, e)
				}
				models[i].in[server] = true
			}
			for j := range sets {
				if r.Intn(8) == 0 {
					checkSet(t, sets[j], models[j])
				}
			}
		}
		for j := range sets {
			checkSet(t, sets[j], models[j])
		}
	}
}

// TestEachServerAlone: a set of one server, for each that may be, has just that one.
func TestEachServerAlone(t *testing.T) {
	c := api.Config{N: 255, K: 1, Delta: maxDelta}
	for server := range 255 {
		m := newModel(c)
		m.in[server] = true
		checkSet(t, setOf(t, c, server), m)
	}
}

func TestAndOfUnlike(t *testing.T) {
	c := api.Config{N: 5, K: 3, Delta: 2}
	s := setOf(t, c, 0, 4)
	for _, o := range []api.Config{
		{N: 4, K: 3, Delta: 2}, {N: 6, K: 3, Delta: 2}, {N: 5, K: 2, Delta: 2}, {N: 5, K: 4, Delta: 2},
		{N: 5, K: 3, Delta: 1}, {N: 5, K: 3, Delta: 3}, {N: 5, K: 3}, {N: 5, K: 3, Delta: 2 + 1<<32}, {N: 255, K: 255, Delta: maxDelta},
	} {
		other := setOf(t, o, 0, 3)
		if both, e := s.And(other); both != nil || e != api.ErrArg {
			t.Errorf("P9.3: And of %v with %v is %v, %d, want ErrArg", c, o, both, e)
		}
		if both, e := other.And(s); both != nil || e != api.ErrArg {
			t.Errorf("P9.3: And of %v with %v is %v, %d, want ErrArg", o, c, both, e)
		}
	}
	if both, e := s.And(nil); both != nil || e != api.ErrArg {
		t.Errorf("P9.3: And with nil is %v, %d, want ErrArg", both, e)
	}
	checkSet(t, s, model{c, []bool{true, false, false, false, true}})
	both, e := s.And(s)
	if e != api.OK {
		t.Fatalf("P9.3: And with itself answers %d", e)
	}
	both.Add(1)
	checkSet(t, both, model{c, []bool{true, true, false, false, true}})
	checkSet(t, s, model{c, []bool{true, false, false, false, true}})
}

// TestApart: what is done to one set, or written into a list that was answered, no other set sees.
func TestApart(t *testing.T) {
	c := api.Config{N: 70, K: 2, Delta: 1}
	s, m := setOf(t, c, 1, 69), newModel(c)
	m.in[1], m.in[69] = true, true
	second, fresh := s.Copy(), mustNew(t, c)
	both, _ := s.And(s)
	for i, o := range []*quorum.Set{second, both} {
		o.Add(i + 2)
		o.Add(i + 66)
		changed := m.copy()
		changed.in[i+2], changed.in[i+66] = true, true
		checkSet(t, o, changed)
	}
	checkSet(t, s, m)
	checkSet(t, fresh, newModel(c))
	s.Add(0)
	m.in[0] = true
	if second.Has(0) || both.Has(0) || fresh.Has(0) {
		t.Error("P9.4: a set has what another was given")
	}
	for _, l := range [][]int{s.List(), s.Rest()} {
		for i := range l {
			l[i] = -7
		}
		_ = append(l, 5)
		checkSet(t, s, m)
	}
	again, e := second.And(s)
	if e != api.OK || again.Met() != second.Met() {
		t.Errorf("P9.4: a copy's config is not the same: And answers %d", e)
	}
	if _, e := both.Copy().And(s); e != api.OK {
		t.Errorf("P9.4: And's config is not the same: %d", e)
	}
}

func TestNilSet(t *testing.T) {
	var none *quorum.Set
	s := setOf(t, api.Config{N: 1, K: 1}, 0)
	for _, server := range append(noServers(3), 0, 1) {
		if fresh, e := none.Add(server); fresh || e != api.OK {
			t.Errorf("P9.4: Add(%d) of nil is %v, %d", server, fresh, e)
		}
		if none.Has(server) {
			t.Errorf("P9.4: Has(%d) of nil is true", server)
		}
	}
	if none.Len() != 0 || none.Met() || len(none.List()) != 0 || len(none.Rest()) != 0 || none.Copy() != nil {
		t.Errorf("P9.4: nil has %d, %v, %v, %v, %v", none.Len(), none.Met(), none.List(), none.Rest(), none.Copy())
	}
	for _, o := range []*quorum.Set{nil, none, s} {
		if both, e := none.And(o); both != nil || e != api.OK {
			t.Errorf("P9.4: And of nil with %v is %v, %d", o, both, e)
		}
	}
}

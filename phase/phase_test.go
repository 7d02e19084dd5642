package phase_test

import (
	"errors"
	"math"
	"runtime"
	"slices"
	"testing"

	"sherd/api"
	"sherd/phase"
	"sherd/quorum"
)

// TestExamples: the chapter's two.
func TestExamples(t *testing.T) {
	p, e := phase.New[string](api.Config{N: 4, K: 2})
	if e != api.OK || p.Len() != 0 || p.Met() || !slices.Equal(p.Missing(), []int{0, 1, 2, 3}) || told(p) != nil {
		t.Fatalf("P17.1: a new phase: %d, Len %d, Met %v, Missing %v, Each %v", e, p.Len(), p.Met(), p.Missing(), told(p))
	}
	for _, x := range []struct {
		server int
		v      string
		first  bool
		e      api.Errno
		met    bool
	}{
		{2, "a", true, api.OK, false},
		{2, "b", false, api.OK, false},
		{4, "x", false, api.ErrNode, false},
		{-1, "x", false, api.ErrNode, false},
		{0, "c", true, api.OK, false},
		{3, "", true, api.OK, true},
	} {
		if first, e := p.Answer(x.server, x.v); first != x.first || e != x.e {
			t.Errorf("P17.2: Answer of %d, %q is %v, %d, want %v, %d", x.server, x.v, first, e, x.first, x.e)
		}
		if p.Met() != x.met {
			t.Errorf("P17.3: behind %d, %q Met is %v", x.server, x.v, p.Met())
		}
	}
	if got := p.Missing(); !slices.Equal(got, []int{1}) {
		t.Errorf("P17.3: Missing is %v, want 1", got)
	}
	if got, want := told(p), []line{{0, "c"}, {2, "b"}, {3, ""}}; !slices.Equal(got, want) {
		t.Errorf("P17.4: Each gives %v, want %v", got, want)
	}
	for _, server := range []int{1, 7} {
		if v, has := p.Get(server); v != "" || has {
			t.Errorf("P17.3: Get of %d is %q, %v", server, v, has)
		}
	}
	if v, has := p.Get(2); v != "b" || !has {
		t.Errorf("P17.3: Get of 2 is %q, %v", v, has)
	}
}

// TestConfigs: which may be is quorum's to say: every N and K around the limits, and numbers whose sums wrap round.
func TestConfigs(t *testing.T) {
	taken, refused := 0, 0
	check := func(c api.Config) {
		t.Helper()
		p, e := phase.New[int](c)
		if want := quorum.Check(c); e != want || (p == nil) != (want != api.OK) {
			t.Fatalf("P17.1: New of %v is %v, %d, want %d", c, p, e, want)
		}
		if e != api.OK {
			refused++
			return
		}
		taken++
		if p.Len() != 0 || p.Met() || len(p.Missing()) != c.N {
			t.Fatalf("P17.1: a new phase of %v has Len %d, Met %v, Missing %v", c, p.Len(), p.Met(), p.Missing())
		}
	}
	for n := -2; n <= api.MaxServers+2; n++ {
		for k := -2; k <= api.MaxServers+2; k += 1 + (n+k+4)%3 {
			check(api.Config{N: n, K: k, Delta: (n + 2) % 4})
		}
	}
	odd := []int{math.MinInt, -1 << 32, -1, 0, 1, 2, 3, 254, 255, 256, 1 << 32, 1<<32 + 3, api.MaxDelta, api.MaxDelta + 1, math.MaxInt}
	for _, n := range odd {
		for _, k := range odd {
			for _, delta := range odd {
				check(api.Config{N: n, K: k, Delta: delta})
			}
		}
	}
	if taken < 1000 || refused < 1000 {
		t.Fatalf("the test says little: %d taken, %d refused", taken, refused)
	}
}

// TestQuorums: every config of all sizes is met just with its Q-th server, from either end, each of which answers twice; and stays so.
func TestQuorums(t *testing.T) {
	for n := 1; n <= api.MaxServers; n++ {
		for k := 1; k <= n; k += 1 + (n-1)/8 {
			c := api.Config{N: n, K: k}
			q, _ := quorum.Size(c)
			p, _ := phase.New[struct{}](c)
			for i := range n {
				server := i
				if n%2 == 0 {
					server = n - 1 - i
				}
				for again := range 2 {
					if first, e := p.Answer(server, struct{}{}); first != (again == 0) || e != api.OK {
						t.Fatalf("P17.2: %v: answer %d of %d is %v, %d", c, again+1, server, first, e)
					}
					if p.Len() != i+1 || p.Met() != (i+1 >= q) || len(p.Missing()) != n-i-1 {
						t.Fatalf("P17.3: %v: behind %d servers Len is %d, Met %v, Missing %v", c, i+1, p.Len(), p.Met(), p.Missing())
					}
				}
			}
		}
	}
}

// TestNoSuchServer: numbers that are no server's change nothing, also those that are one's if cut to fewer bits.
func TestNoSuchServer(t *testing.T) {
	for _, n := range []int{1, 2, 3, 64, 128, 254, 255} {
		p, w := both(t, api.Config{N: n, K: 1})
		say(t, p, w, line{n - 1, "last"}, "ahead")
		for _, server := range []int{n, n + 1, 255, 256, 256 + n - 1, 1 << 16, 1 << 32, 1<<32 + n - 1, math.MaxInt, -1, -n, -256 + n - 1, -1 << 32, math.MinInt, math.MinInt + n - 1} {
			if first, e := p.Answer(server, "odd"); first || e != api.ErrNode {
				t.Fatalf("P17.2: N %d: Answer of %d is %v, %d, want ErrNode", n, server, first, e)
			}
			if v, has := p.Get(server); v != "" || has {
				t.Fatalf("P17.3: N %d: Get of %d is %q, %v", n, server, v, has)
			}
			same(t, p, w, "behind a number that is no server's")
		}
	}
}

// full is a phase of n servers, all of which have answered, the last one first.
func full(n int) *phase.Phase[int] {
	p, _ := phase.New[int](api.Config{N: n, K: 1})
	for server := n - 1; server >= 0; server-- {
		p.Answer(server, server*server)
	}
	return p
}

// TestRising: with as many servers as may be the order is no map's.
func TestRising(t *testing.T) {
	p := full(api.MaxServers)
	for range 20 {
		next := 0
		p.Each(func(server, v int) bool {
			if server != next || v != server*server {
				t.Fatalf("P17.4: Each gives %d, %d, want server %d", server, v, next)
			}
			next++
			return true
		})
		if next != api.MaxServers {
			t.Fatalf("P17.4: Each gives %d servers", next)
		}
	}
}

// TestFalse: at whichever call yield answers false, it is the last one.
func TestFalse(t *testing.T) {
	const n = 9
	p := full(n)
	for last := range n {
		calls := 0
		p.Each(func(server, v int) bool {
			calls++
			return server != last
		})
		if calls != last+1 {
			t.Errorf("P17.4: yield answers false at server %d: it is called %d times", last, calls)
		}
	}
	for server := range p.Each {
		if server == 4 {
			break
		}
		if server > 4 {
			t.Fatalf("P17.4: a range that broke off goes on with %d", server)
		}
	}
}

// TestPanic: what yield panics with goes through, whatever it is and at whichever call; the phase is as it was.
func TestPanic(t *testing.T) {
	const n = 5
	why := errors.New("why")
	for _, with := range []any{"text", 7, why, api.ErrNode} {
		for at := range n {
			p := full(n)
			calls := 0
			got := func() (got any) {
				defer func() { got = recover() }()
				p.Each(func(server, v int) bool {
					calls++
					p.Answer(n-1, 1000+server)
					if server == at {
						panic(with)
					}
					return true
				})
				return "no panic"
			}()
			if got != with || calls != at+1 {
				t.Errorf("P17.4: yield panics with %v at %d: %v came through, behind %d calls", with, at, got, calls)
			}
			sum := 0
			p.Each(func(server, v int) bool {
				sum += v
				return true
			})
			if p.Len() != n || sum != 0+1+4+9+1000+at {
				t.Errorf("P17.4: behind a panic at %d: Len is %d, the sum of all %d", at, p.Len(), sum)
			}
		}
	}
}

// TestGoexit: a goroutine that yield ends is ended.
func TestGoexit(t *testing.T) {
	p := full(3)
	done := make(chan int)
	calls := 0
	go func() {
		defer func() { done <- calls }()
		p.Each(func(server, v int) bool {
			calls++
			runtime.Goexit()
			return true
		})
		calls += 100
	}()
	if got := <-done; got != 1 {
		t.Errorf("P17.4: a goroutine that ended in yield: %d", got)
	}
}

// TestNilYield: it is one that always answers true: nothing is to be seen of it.
func TestNilYield(t *testing.T) {
	p, w := both(t, api.Config{N: 3, K: 3})
	p.Each(nil)
	for server := range 3 {
		say(t, p, w, line{server, "v"}, "ahead")
		p.Each(nil)
		same(t, p, w, "behind Each(nil)")
	}
}

// TestNested: an Each inside another, each with what stood when it was called.
func TestNested(t *testing.T) {
	p, _ := phase.New[int](api.Config{N: 4, K: 1})
	p.Answer(0, 1)
	p.Answer(2, 1)
	var got []int
	p.Each(func(server, v int) bool {
		p.Answer(server+1, 10*v)
		p.Each(func(inner, w int) bool {
			p.Answer(inner, w+1)
			got = append(got, server, v, inner, w)
			return true
		})
		return true
	})
	want := []int{
		0, 1, 0, 1, 0, 1, 1, 10, 0, 1, 2, 1,
		2, 1, 0, 2, 2, 1, 1, 11, 2, 1, 2, 2, 2, 1, 3, 10,
	}
	if !slices.Equal(got, want) {
		t.Errorf("P17.4: nested, they give %v, want %v", got, want)
	}
}

// TestTwo: phases of one config, and of one type, have nothing to do with one another.
func TestTwo(t *testing.T) {
	c := api.Config{N: 3, K: 1}
	a, onA := both(t, c)
	b, onB := both(t, c)
	other, _ := phase.New[int](c)
	for i := range 6 {
		say(t, a, onA, line{i % 3, "a" + string(rune('0'+i))}, "a")
		if i%2 == 0 {
			say(t, b, onB, line{(i + 1) % 3, "b"}, "b")
		}
		same(t, a, onA, "P17.5: a of two")
		same(t, b, onB, "P17.5: b of two")
		if other.Len() != 0 || other.Met() || len(other.Missing()) != 3 {
			t.Fatalf("P17.5: what others are told is seen: %d", other.Len())
		}
	}
	a.Each(func(int, string) bool {
		say(t, b, onB, line{2, "from a"}, "b in a")
		return true
	})
	same(t, a, onA, "P17.5: a of two")
	same(t, b, onB, "P17.5: b of two")
}

// none asks a nil phase everything.
func none[T any](t *testing.T, v T, zero func(T) bool) {
	t.Helper()
	var p *phase.Phase[T]
	for _, server := range []int{-1, 0, 1, math.MinInt, math.MaxInt} {
		if first, e := p.Answer(server, v); first || e != api.OK {
			t.Errorf("P17.5: Answer of a nil Phase is %v, %d", first, e)
		}
		if got, has := p.Get(server); !zero(got) || has {
			t.Errorf("P17.5: Get of a nil Phase is %v, %v", got, has)
		}
	}
	if p.Met() || p.Len() != 0 || len(p.Missing()) != 0 {
		t.Errorf("P17.5: a nil Phase: Met %v, Len %d, Missing %v", p.Met(), p.Len(), p.Missing())
	}
	p.Each(func(int, T) bool {
		t.Error("P17.5: Each of a nil Phase calls")
		return true
	})
	p.Each(nil)
}

func TestNil(t *testing.T) {
	none(t, "x", func(v string) bool { return v == "" })
	none(t, 3, func(v int) bool { return v == 0 })
	none(t, []byte("x"), func(v []byte) bool { return v == nil })
	none(t, api.Message{Op: 3}, func(v api.Message) bool { return v.Op == 0 && v.Key == "" })
	none[error](t, api.ErrArg, func(v error) bool { return v == nil })
	none(t, func() {}, func(v func()) bool { return v == nil })
}

// kind has a phase of any type told: the zero value is an answer as each other is.
func kind[T any](t *testing.T, v T, is, zero func(T) bool) {
	t.Helper()
	p, e := phase.New[T](api.Config{N: 3, K: 1})
	if e != api.OK {
		t.Fatalf("P17.1: New is %d", e)
	}
	var nothing T
	if first, e := p.Answer(1, nothing); !first || e != api.OK || p.Len() != 1 {
		t.Errorf("P17.2: the zero value: %v, %d, Len %d", first, e, p.Len())
	}
	if got, has := p.Get(1); !zero(got) || !has {
		t.Errorf("P17.3: the zero value: %v, %v", got, has)
	}
	if first, e := p.Answer(1, v); first || e != api.OK || p.Len() != 1 || p.Met() {
		t.Errorf("P17.2: behind the zero value: %v, %d, Len %d, Met %v", first, e, p.Len(), p.Met())
	}
	if got, has := p.Get(1); !is(got) || !has {
		t.Errorf("P17.3: Get is %v, %v", got, has)
	}
	if first, e := p.Answer(1, nothing); first || e != api.OK {
		t.Errorf("P17.2: the zero value as a later answer: %v, %d", first, e)
	}
	if first, e := p.Answer(2, v); !first || e != api.OK || !p.Met() {
		t.Errorf("P17.2: a second server: %v, %d, Met %v", first, e, p.Met())
	}
	for server, got := range p.Each {
		if server != 1 && server != 2 || server == 1 && !zero(got) || server == 2 && !is(got) {
			t.Errorf("P17.4: Each gives %d, %v", server, got)
		}
	}
	if got, has := p.Get(0); !zero(got) || has {
		t.Errorf("P17.3: Get of one that is missing is %v, %v", got, has)
	}
}

// TestKinds: whatever is answered, of types that can be compared and of those that can't.
func TestKinds(t *testing.T) {
	kind(t, true, func(v bool) bool { return v }, func(v bool) bool { return !v })
	kind(t, 1.5, func(v float64) bool { return v == 1.5 }, func(v float64) bool { return v == 0 })
	kind(t, math.NaN(), func(v float64) bool { return v != v }, func(v float64) bool { return v == 0 })
	kind(t, struct{}{}, func(struct{}) bool { return true }, func(struct{}) bool { return true })
	kind(t, [3]int{1, 2, 3}, func(v [3]int) bool { return v == [3]int{1, 2, 3} }, func(v [3]int) bool { return v == [3]int{} })
	kind(t, []int{7}, func(v []int) bool { return len(v) == 1 && v[0] == 7 }, func(v []int) bool { return v == nil })
	kind(t, map[string]int{"a": 1}, func(v map[string]int) bool { return v["a"] == 1 }, func(v map[string]int) bool { return v == nil })
	kind(t, func() int { return 4 }, func(v func() int) bool { return v != nil && v() == 4 }, func(v func() int) bool { return v == nil })
	kind[any](t, []byte("b"), func(v any) bool { b, ok := v.([]byte); return ok && string(b) == "b" }, func(v any) bool { return v == nil })
	kind[error](t, api.ErrNode, func(v error) bool { return v == api.ErrNode }, func(v error) bool { return v == nil })
	kind(t, api.Tag{Count: 2, Client: 1}, func(v api.Tag) bool { return v == api.Tag{Count: 2, Client: 1} }, func(v api.Tag) bool { return v == api.Tag{} })
	kind(t, new(int), func(v *int) bool { return v != nil }, func(v *int) bool { return v == nil })
	kind(t, make(chan int, 1), func(v chan int) bool { return cap(v) == 1 }, func(v chan int) bool { return v == nil })
	inner, _ := phase.New[int](api.Config{N: 1, K: 1})
	kind(t, inner, func(v *phase.Phase[int]) bool { return v == inner }, func(v *phase.Phase[int]) bool { return v == nil })
}

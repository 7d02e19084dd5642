package quorum_test

import (
	"math"
	"testing"

	"sherd/api"
	"sherd/quorum"
)

const maxDelta = 1<<62 - 1

// odd: numbers at the edges of all that a config's limits and an int's are made of.
func odd() []int {
	return []int{math.MinInt, math.MinInt + 1, -1 << 62, -256, -2, -1, 0, 1, 2, 127, 128, 254, 255, 256, 257, 511, 1 << 16, 1 << 32, 1<<32 + 1, 1<<32 + 255, maxDelta - 1, maxDelta, maxDelta + 1, math.MaxInt - 1, math.MaxInt}
}

// mayBe: the words of P9.1.
func mayBe(c api.Config) bool {
	return 1 <= c.K && c.K <= c.N && c.N <= 255 && 0 <= c.Delta && c.Delta <= maxDelta
}

// leastQuorum: gone through one by one, the first that is at least half of N + K.
func leastQuorum(n, k int) int {
	for q := 0; ; q++ {
		if q+q >= n+k {
			return q
		}
	}
}

// roundedDown: the greatest number whose double is at most d.
func roundedDown(d int) int {
	h := 0
	for h+1+h+1 <= d {
		h++
	}
	return h
}

// checkConfig asks all that can be asked of a config.
func checkConfig(t *testing.T, c api.Config) {
	t.Helper()
	check := quorum.Check(c)
	size, sizeErr := quorum.Size(c)
	down, downErr := quorum.Down(c)
	common, commonErr := quorum.Common(c)
	set, setErr := quorum.New(c)
	if !mayBe(c) {
		for name, e := range map[string]api.Errno{"Check": check, "Size": sizeErr, "Down": downErr, "Common": commonErr, "New": setErr} {
			if e != api.ErrConfig {
				t.Fatalf("P9.1: %s of %v answers %d, want ErrConfig", name, c, e)
			}
		}
		if size != 0 || down != 0 || common != 0 || set != nil {
			t.Fatalf("P9.1: %v is refused, with %d, %d, %d, %v beside", c, size, down, common, set)
		}
		return
	}
	for name, e := range map[string]api.Errno{"Check": check, "Size": sizeErr, "Down": downErr, "Common": commonErr, "New": setErr} {
		if e != api.OK {
			t.Fatalf("P9.1: %s of %v answers %d, want OK", name, c, e)
		}
	}
	if set == nil {
		t.Fatalf("P9.3: New of %v is nil", c)
	}
	q := leastQuorum(c.N, c.K)
	if size != q {
		t.Fatalf("P9.2: Size of %v is %d, want %d", c, size, q)
	}
	if down != roundedDown(c.N-c.K) || down != c.N-q {
		t.Fatalf("P9.2: Down of %v is %d, want %d", c, down, roundedDown(c.N-c.K))
	}
	if common != q+q-c.N || common != c.K+(c.N+c.K)%2 {
		t.Fatalf("P9.2: Common of %v is %d, want %d", c, common, q+q-c.N)
	}
}

// TestAllSmallConfigs: every N and K that may be, and those around them.
func TestAllSmallConfigs(t *testing.T) {
	for n := -3; n <= 259; n++ {
		for k := -3; k <= 259; k++ {
			checkConfig(t, api.Config{N: n, K: k, Delta: (n*7 + k + 24) % 5})
		}
	}
}

// TestOddConfigs: each of the three numbers at all edges, so that sums that wrap round would show.
func TestOddConfigs(t *testing.T) {
	for _, n := range odd() {
		for _, k := range odd() {
			for _, delta := range odd() {
				checkConfig(t, api.Config{N: n, K: k, Delta: delta})
			}
		}
	}
}

func TestConfigExamples(t *testing.T) {
	for _, x := range []struct{ n, k, size, down, common int }{
		{1, 1, 1, 0, 1},
		{3, 1, 2, 1, 1},
		{3, 2, 3, 0, 3},
		{3, 3, 3, 0, 3},
		{4, 2, 3, 1, 2},
		{5, 2, 4, 1, 3},
		{5, 3, 4, 1, 3},
		{5, 5, 5, 0, 5},
		{255, 1, 128, 127, 1},
		{255, 85, 170, 85, 85},
	} {
		for _, delta := range []int{0, 1, maxDelta} {
			c := api.Config{N: x.n, K: x.k, Delta: delta}
			if got, e := quorum.Size(c); got != x.size || e != api.OK {
				t.Errorf("P9.2: Size of %v is %d, %d, want %d", c, got, e, x.size)
			}
			if got, e := quorum.Down(c); got != x.down || e != api.OK {
				t.Errorf("P9.2: Down of %v is %d, %d, want %d", c, got, e, x.down)
			}
			if got, e := quorum.Common(c); got != x.common || e != api.OK {
				t.Errorf("P9.2: Common of %v is %d, %d, want %d", c, got, e, x.common)
			}
		}
	}
	for _, c := range []api.Config{{N: 0, K: 0}, {N: 3, K: 0}, {N: 3, K: 4}, {N: 256, K: 1}, {N: 3, K: 1, Delta: -1}, {N: 1, K: 1, Delta: 1 << 62}} {
		if e := quorum.Check(c); e != api.ErrConfig {
			t.Errorf("P9.1: Check of %v is %d, want ErrConfig", c, e)
		}
	}
	for _, c := range []api.Config{{N: 255, K: 255}, {N: 1, K: 1, Delta: maxDelta}} {
		if e := quorum.Check(c); e != api.OK {
			t.Errorf("P9.1: Check of %v is %d, want OK", c, e)
		}
	}
}

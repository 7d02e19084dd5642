package scrub_test

import (
	"bytes"
	"math/rand/v2"
	"slices"
	"testing"

	"sherd/api"
	"sherd/mend"
	"sherd/scrub"
	"sherd/stripe"
)

// mended looks at the fragments of a value at some servers, of which those of wrong are other bytes of the same length: the finding is Whole, Wrong are just these, and Value is the value.
func mended(t *testing.T, r *rand.Rand, c api.Config, value []byte, has, wrong []int) {
	t.Helper()
	fragments, e := stripe.Split(made(c), value)
	if e != api.OK {
		t.Fatalf("Split is %d", int(e))
	}
	tables := make([][]api.Held, c.N)
	for _, server := range has {
		data := bytes.Clone(fragments[server])
		if slices.Contains(wrong, server) {
			data = other(r, data)
		}
		tables[server] = of(api.Entry{Tag: tg(3, 4), Has: true, Fin: server%3 == 0, Data: data})
	}
	all, e := scrub.Look(c, tables)
	if e != api.OK || len(all) != 1 || !all[0].Whole || !slices.Equal(all[0].Has, has) || !slices.Equal(all[0].Wrong, wrong) {
		t.Fatalf("P27.5: %+v, %d bytes at %v, wrong at %v: Look is %+v, %d", c, len(value), has, wrong, all, int(e))
	}
	if got, e := scrub.Value(c, tables, "k", tg(3, 4)); e != api.OK || !bytes.Equal(got, value) {
		t.Fatalf("P27.5: %+v, %d bytes at %v, wrong at %v: Value is %.99q, %d", c, len(value), has, wrong, got, int(e))
	}
	for server := range c.N {
		us, e := scrub.Lacks(c, tables, server)
		if slices.Contains(has, server) {
			if e != api.OK || len(us) != 0 {
				t.Fatalf("P27.3: %+v: server %d has a fragment, and lacks %v, %d", c, server, us, int(e))
			}
			continue
		}
		want := api.Update{Kind: api.UPre, Key: "k", Entry: api.Entry{Tag: tg(3, 4), Data: fragments[server]}}
		if e != api.OK || len(us) != 1 || !sameUpdate(us[0], want) {
			t.Fatalf("P27.3: %+v: server %d lacks %v, %d, want %v", c, server, us, int(e), want)
		}
	}
}

// other is bytes of the same length that are unlike in one place, in some, or in all.
func other(r *rand.Rand, data []byte) []byte {
	data = bytes.Clone(data)
	at := r.IntN(len(data))
	data[at] ^= byte(1 + r.IntN(255))
	for i := range data {
		if most := r.IntN(3); i != at && r.IntN(3) < most {
			data[i] = byte(r.IntN(256))
		}
	}
	return data
}

// drawn is so many of a list, rising.
func drawn(r *rand.Rand, all []int, count int) []int {
	some := make([]int, count)
	for i, j := range r.Perm(len(all))[:count] {
		some[i] = all[j]
	}
	slices.Sort(some)
	return some
}

// TestWrongOnes: each set of servers of small configs, with each number of wrong ones that can be told.
func TestWrongOnes(t *testing.T) {
	r := rand.New(rand.NewPCG(27, 5))
	told := 0
	for n := 1; n <= 7; n++ {
		for k := 1; k <= n; k++ {
			c := api.Config{N: n, K: k, Delta: r.IntN(3)}
			for bits := range 1 << n {
				var has []int
				for i := range n {
					if bits>>i&1 == 1 {
						has = append(has, i)
					}
				}
				if len(has) < k {
					continue
				}
				for bad := range mend.Most(made(c), len(has)) + 1 {
					value := make([]byte, []int{0, 1, 5, 30}[r.IntN(4)])
					for i := range value {
						value[i] = byte(r.IntN(3))
					}
					mended(t, r, c, value, has, drawn(r, has, bad))
					told += bad
				}
			}
		}
	}
	if told < 300 {
		t.Errorf("the test says little: %d were wrong", told)
	}
}

// TestManyWrongOnes: as many servers, and as long values, as there may be.
func TestManyWrongOnes(t *testing.T) {
	r := rand.New(rand.NewPCG(27, 6))
	for _, x := range []struct{ n, k, long int }{
		{255, 1, 30}, {255, 85, 2000}, {255, 128, 300}, {255, 253, 40}, {255, 255, 300}, {254, 3, 300}, {3, 1, 65536}, {5, 3, 65536}, {4, 2, 65535}, {1, 1, 65536}, {255, 254, 65536},
	} {
		c := api.Config{N: x.n, K: x.k}
		all := make([]int, x.n)
		value := make([]byte, x.long)
		for i := range all {
			all[i] = i
		}
		for i := range value {
			value[i] = byte(r.IntN(256))
		}
		for _, m := range []int{x.n, x.k, (x.n + x.k) / 2} {
			has := drawn(r, all, m)
			mended(t, r, c, value, has, drawn(r, has, mend.Most(made(c), m)))
		}
	}
}

// TestOneTooMany: of one part more than are needed none may be wrong.
func TestOneTooMany(t *testing.T) {
	r := rand.New(rand.NewPCG(27, 7))
	for n := 2; n <= 7; n++ {
		for k := 1; k < n; k++ {
			c := api.Config{N: n, K: k}
			all := []int{0, 1, 2, 3, 4, 5, 6}[:n]
			has := drawn(r, all, k+1)
			bad := has[r.IntN(k+1)]
			fragments := split(t, c, "some value")
			tables := make([][]api.Held, n)
			for _, server := range has {
				data := fragments[server]
				if server == bad {
					data = other(r, data)
				}
				tables[server] = of(pre(tg(1, 1), data))
			}
			found, e := scrub.Look(c, tables)
			if e != api.OK || len(found) != 1 || found[0].Whole || len(found[0].Wrong) > 0 {
				t.Errorf("P27.1: %+v: of %v %d is wrong: Look is %+v, %d", c, has, bad, found, int(e))
			}
			if _, e := scrub.Value(c, tables, "k", tg(1, 1)); e != api.ErrWrong {
				t.Errorf("P27.2: %+v: of %v %d is wrong: Value is %d", c, has, bad, int(e))
			}
		}
	}
}

package matrix_test

import (
	"bytes"
	"slices"
	"testing"

	"sherd/api"
	"sherd/gf"
	"sherd/matrix"
)

// determinant: by its expansion along the first row; signs play no part, each element being its own opposite.
func determinant(f *gf.Field, rows [][]byte) byte {
	if len(rows) == 0 {
		return 1
	}
	var sum byte
	for j, factor := range rows[0] {
		if factor == 0 {
			continue
		}
		var minor [][]byte
		for _, row := range rows[1:] {
			minor = append(minor, slices.Concat(row[:j], row[j+1:]))
		}
		sum ^= f.Mul(factor, determinant(f, minor))
	}
	return sum
}

// choices: all lists of k rising numbers below n.
func choices(n int, k int) [][]int {
	if k == 0 {
		return [][]int{nil}
	}
	var all [][]int
	for last := k - 1; last < n; last++ {
		for _, head := range choices(last, k-1) {
			all = append(all, append(slices.Clone(head), last))
		}
	}
	return all
}

// rank: the size of the greatest square part whose determinant is not 0; nothing is eliminated.
func rank(f *gf.Field, rows [][]byte) int {
	for k := min(len(rows), len(rows[0])); k > 0; k-- {
		for _, is := range choices(len(rows), k) {
			for _, js := range choices(len(rows[0]), k) {
				if determinant(f, grid(k, k, func(i int, j int) byte { return rows[is[i]][js[j]] })) != 0 {
					return k
				}
			}
		}
	}
	return 0
}

// free: the columns that are sums of multiples of those ahead of them.
func free(f *gf.Field, rows [][]byte) []bool {
	is := make([]bool, len(rows[0]))
	before := 0
	for j := range is {
		now := rank(f, grid(len(rows), j+1, func(i int, j int) byte { return rows[i][j] }))
		is[j] = now == before
		before = now
	}
	return is
}

func widened(rows [][]byte, v []byte) [][]byte {
	return grid(len(rows), len(rows[0])+1, func(i int, j int) byte {
		if j < len(rows[i]) {
			return rows[i][j]
		}
		return v[i]
	})
}

// small: many matrices of up to 4 rows and columns, dependent rows, zero rows and zero columns among them.
func small(t *testing.T, f *gf.Field) []*matrix.Matrix {
	t.Helper()
	r := draws()
	var all []*matrix.Matrix
	for _, kinds := range []int{2, 3, 256} {
		for rows := 1; rows <= 4; rows++ {
			for cols := 1; cols <= 4; cols++ {
				for range 12 {
					all = append(all, made(t, f, drawn(r, rows, cols, kinds)))
				}
			}
		}
	}
	for n := 2; n <= 4; n++ { // products of thin ones: no zeros, yet a low rank
		a, b := made(t, f, drawn(r, n, n-1, 256)), made(t, f, drawn(r, n-1, n, 256))
		p, _ := a.Mul(b)
		all = append(all, p)
	}
	return all
}

func TestRank(t *testing.T) {
	for _, f := range fields(t) {
		for _, m := range small(t, f) {
			if got, n := m.Rank(), rank(f, m.Rows()); got != n {
				t.Fatalf("P2.6: Rank of %v: %d, want %d", m.Rows(), got, n)
			}
			if m.Rank() != m.Transpose().Rank() {
				t.Fatalf("P2.6: %v has not the rank of its transpose", m.Rows())
			}
		}
	}
	f := gf.Std()
	for _, k := range []struct {
		rows [][]byte
		rank int
	}{
		{[][]byte{{0}}, 0}, {[][]byte{{0, 0}, {0, 0}, {0, 0}}, 0}, {[][]byte{{1, 2}, {2, 4}}, 1}, {[][]byte{{0, 5}, {3, 0}}, 2}, {[][]byte{{0, 0, 7}}, 1}, {[][]byte{{0}, {0}, {7}}, 1},
		{one(256), 256}, {grid(256, 256, func(i int, j int) byte { return f.Mul(byte(i), byte(j)) }), 1},
	} {
		if got := made(t, f, k.rows).Rank(); got != k.rank {
			t.Errorf("P2.6: Rank of %d rows: %d, want %d", len(k.rows), got, k.rank)
		}
	}
}

func TestInvert(t *testing.T) {
	for _, f := range fields(t) {
		for _, m := range small(t, f) {
			n, cols := m.Size()
			x, e := m.Invert()
			switch {
			case n != cols:
				refused(t, "P2.5: Invert of one that is not square", api.ErrShape, x, e)
			case rank(f, m.Rows()) < n:
				refused(t, "P2.5: Invert of a singular one", api.ErrSingular, x, e)
			default:
				inverts(t, f, m, x, e)
			}
		}
	}
	f := gf.Std()
	r := draws()
	for _, n := range []int{9, 40, 256} {
		lower := made(t, f, grid(n, n, func(i int, j int) byte { return triangle(r.IntN(256), i, j) }))
		upper := made(t, f, grid(n, n, func(i int, j int) byte { return triangle(r.IntN(256), j, i) }))
		m, _ := lower.Mul(upper)
		x, e := m.Invert()
		inverts(t, f, m, x, e)
	}
	for _, k := range []struct{ rows, inverse [][]byte }{
		{[][]byte{{1, 1}, {1, 2}}, [][]byte{{0xf5, 0xf4}, {0xf4, 0xf4}}}, {[][]byte{{0, 1}, {1, 0}}, [][]byte{{0, 1}, {1, 0}}}, {[][]byte{{2}}, [][]byte{{0x8e}}},
	} {
		x, e := made(t, f, k.rows).Invert()
		want(t, "P2.5: Invert of the example", k.inverse, x, e)
	}
	for _, size := range [][2]int{{1, 2}, {2, 1}, {256, 255}, {255, 256}} {
		x, e := made(t, f, grid(size[0], size[1], func(int, int) byte { return 0 })).Invert()
		refused(t, "P2.5: Invert of zeros that are not square", api.ErrShape, x, e)
	}
}

// triangle: a byte of a matrix with 1 on its diagonal and 0 on one side of it, which surely has an inverse.
func triangle(any int, i int, j int) byte {
	switch {
	case i == j:
		return 1
	case i < j:
		return 0
	}
	return byte(any)
}

func inverts(t *testing.T, f *gf.Field, m *matrix.Matrix, x *matrix.Matrix, e api.Errno) {
	t.Helper()
	if e != api.OK || x == nil {
		t.Fatalf("P2.5: Invert of %v: %v, %d", m.Rows(), x, e)
	}
	n, _ := m.Size()
	if !sameRows(times(f, m.Rows(), x.Rows()), one(n)) || !sameRows(times(f, x.Rows(), m.Rows()), one(n)) {
		t.Fatalf("P2.5: %v is not the inverse of %v", x.Rows(), m.Rows())
	}
}

func TestSolve(t *testing.T) {
	r := draws()
	for _, f := range fields(t) {
		for _, m := range small(t, f) {
			rows, cols := m.Size()
			frees := free(f, m.Rows())
			hit, _ := m.Apply(drawn(r, 1, cols, 256)[0])
			for _, v := range [][]byte{hit, make([]byte, rows), drawn(r, 1, rows, 256)[0], drawn(r, 1, rows, 2)[0]} {
				solves(t, f, m, v, frees)
			}
		}
	}
}

func solves(t *testing.T, f *gf.Field, m *matrix.Matrix, v []byte, frees []bool) {
	t.Helper()
	x, e := m.Solve(v)
	if rank(f, widened(m.Rows(), v)) > rank(f, m.Rows()) {
		if e != api.ErrSingular || len(x) != 0 {
			t.Fatalf("P2.6: Solve of %v with %v: %v, %d, and there is no such column", m.Rows(), v, x, e)
		}
		return
	}
	if e != api.OK || len(x) != len(frees) || !bytes.Equal(turned(times(f, m.Rows(), turned([][]byte{x})))[0], v) {
		t.Fatalf("P2.6: Solve of %v with %v: %v, %d", m.Rows(), v, x, e)
	}
	for j := range x {
		if frees[j] && x[j] != 0 {
			t.Fatalf("P2.6: Solve of %v with %v: %v is not 0 at the free column %d", m.Rows(), v, x, j)
		}
	}
}

func TestSolveExamples(t *testing.T) {
	f := gf.Std()
	for _, k := range []struct {
		rows [][]byte
		v, x []byte
		err  api.Errno
	}{
		{[][]byte{{1, 2}, {2, 4}}, []byte{1, 2}, []byte{1, 0}, api.OK},
		{[][]byte{{1, 2}, {2, 4}}, []byte{1, 1}, nil, api.ErrSingular},
		{[][]byte{{0, 1}, {0, 2}}, []byte{3, 6}, []byte{0, 3}, api.OK},
		{[][]byte{{0, 0}}, []byte{0}, []byte{0, 0}, api.OK},
		{[][]byte{{0, 0}}, []byte{1}, nil, api.ErrSingular},
		{[][]byte{{1}, {1}, {1}}, []byte{7, 7, 7}, []byte{7}, api.OK},
		{[][]byte{{1}, {1}, {1}}, []byte{7, 7, 6}, nil, api.ErrSingular},
		{[][]byte{{1, 2}, {2, 4}}, nil, nil, api.ErrShape},
		{[][]byte{{1, 2}, {2, 4}}, []byte{1}, nil, api.ErrShape},
		{[][]byte{{1, 2}, {2, 4}}, []byte{1, 1, 1}, nil, api.ErrShape},
		{[][]byte{{1, 2, 3}, {2, 4, 6}}, []byte{1, 1, 1}, nil, api.ErrShape},
		{[][]byte{{0, 0, 0}}, []byte{1, 1, 1}, nil, api.ErrShape},
	} {
		if x, e := made(t, f, k.rows).Solve(k.v); e != k.err || !bytes.Equal(x, k.x) {
			t.Errorf("P2.6: Solve of %v with %v: %v, %d, want %v, %d", k.rows, k.v, x, e, k.x, k.err)
		}
	}
	r := draws()
	big := made(t, f, drawn(r, 256, 200, 256))
	x := drawn(r, 1, 200, 256)[0]
	v, _ := big.Apply(x)
	if got, e := big.Solve(v); big.Rank() != 200 || e != api.OK || !bytes.Equal(got, x) {
		t.Errorf("P2.6: Solve of 256 rows: %d", e)
	}
	v[255] ^= 1
	if got, e := big.Solve(v); e != api.ErrSingular || len(got) != 0 {
		t.Errorf("P2.6: Solve of 256 rows with a wrong element: %v, %d", got, e)
	}
}

// What follows from the promises.

func TestVandermondeAndCauchyHaveInverses(t *testing.T) {
	r := draws()
	for _, f := range fields(t) {
		for n := 1; n <= 128; n = 2*n + 1 {
			unlike := make([]byte, 0, 256)
			for _, p := range r.Perm(256) {
				unlike = append(unlike, byte(p))
			}
			v, _ := matrix.Vandermonde(f, unlike[:n], n)
			x, e := v.Invert()
			inverts(t, f, v, x, e)
			c, _ := matrix.Cauchy(f, unlike[:n], unlike[n:2*n])
			x, e = c.Invert()
			inverts(t, f, c, x, e)
			part, _ := c.Pick(r.Perm(n)[:(n+1)/2])
			part, _ = part.Transpose().Pick(r.Perm(n)[:(n+1)/2])
			x, e = part.Invert()
			inverts(t, f, part, x, e)
		}
	}
	whole := make([]byte, 256)
	for i := range whole {
		whole[i] = byte(i)
	}
	v, _ := matrix.Vandermonde(gf.Std(), whole, 256)
	x, e := v.Invert()
	inverts(t, gf.Std(), v, x, e)
	twice, _ := matrix.Vandermonde(gf.Std(), []byte{4, 9, 4}, 3)
	x, e = twice.Invert()
	refused(t, "Invert of Vandermonde with a point twice", api.ErrSingular, x, e)
}

func TestRankOfProduct(t *testing.T) {
	for _, f := range fields(t) {
		all := small(t, f)
		for i, a := range all {
			b := all[(i*7+3)%len(all)]
			if p, e := a.Mul(b); e == api.OK && p.Rank() > min(a.Rank(), b.Rank()) {
				t.Fatalf("the product of %v and %v has a greater rank", a.Rows(), b.Rows())
			}
		}
	}
}

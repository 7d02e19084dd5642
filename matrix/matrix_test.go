package matrix_test

import (
	"bytes"
	"math"
	"math/rand/v2"
	"slices"
	"testing"

	"sherd/api"
	"sherd/gf"
	"sherd/matrix"
)

// fields: the standard one and two others, in which products come out otherwise.
func fields(t *testing.T) []*gf.Field {
	t.Helper()
	all := []*gf.Field{gf.Std()}
	for _, poly := range []int{0x12b, 0x1f5} {
		f, e := gf.New(poly)
		if e != api.OK {
			t.Fatalf("New(%#x): %d", poly, e)
		}
		all = append(all, f)
	}
	return all
}

func made(t *testing.T, f *gf.Field, rows [][]byte) *matrix.Matrix {
	t.Helper()
	m, e := matrix.New(f, rows)
	if e != api.OK || m == nil {
		t.Fatalf("New(%#x, %v): %v, %d", f.Poly(), rows, m, e)
	}
	return m
}

func sameRows(a [][]byte, b [][]byte) bool { return slices.EqualFunc(a, b, bytes.Equal) }

// want fails unless the call answered these rows and OK.
func want(t *testing.T, what string, rows [][]byte, m *matrix.Matrix, e api.Errno) {
	t.Helper()
	if e != api.OK || m == nil || !sameRows(m.Rows(), rows) {
		t.Errorf("%s: %v, %d, want %v", what, m.Rows(), e, rows)
	}
}

// refused fails unless the call answered no matrix and this error.
func refused(t *testing.T, what string, err api.Errno, m *matrix.Matrix, e api.Errno) {
	t.Helper()
	if e != err || m != nil {
		t.Errorf("%s: %v, %d, want no matrix and %d", what, m.Rows(), e, err)
	}
}

// grid: so many rows and columns, filled by a rule.
func grid(rows int, cols int, rule func(i int, j int) byte) [][]byte {
	all := make([][]byte, rows)
	for i := range all {
		all[i] = make([]byte, cols)
		for j := range all[i] {
			all[i][j] = rule(i, j)
		}
	}
	return all
}

func draws() *rand.Rand { return rand.New(rand.NewPCG(2, 7)) }

// drawn: any bytes; of few kinds, so that rows are often dependent and zeros are many.
func drawn(r *rand.Rand, rows int, cols int, kinds int) [][]byte {
	return grid(rows, cols, func(int, int) byte { return byte(r.IntN(kinds)) })
}

func one(n int) [][]byte {
	return grid(n, n, func(i int, j int) byte {
		if i == j {
			return 1
		}
		return 0
	})
}

func turned(rows [][]byte) [][]byte {
	return grid(len(rows[0]), len(rows), func(i int, j int) byte { return rows[j][i] })
}

// times: the product by its definition.
func times(f *gf.Field, a [][]byte, b [][]byte) [][]byte {
	return grid(len(a), len(b[0]), func(i int, j int) byte {
		var sum byte
		for k := range b {
			sum ^= f.Mul(a[i][k], b[k][j])
		}
		return sum
	})
}

func TestNew(t *testing.T) {
	f := gf.Std()
	line := func(n int) []byte { return make([]byte, n) }
	for _, k := range []struct {
		what  string
		field *gf.Field
		rows  [][]byte
		err   api.Errno
	}{
		{"no field", nil, [][]byte{{1}}, api.ErrArg},
		{"no field and no row", nil, nil, api.ErrArg},
		{"no field and too many rows", nil, grid(257, 1, func(int, int) byte { return 1 }), api.ErrArg},
		{"no row", f, nil, api.ErrShape},
		{"an empty list of rows", f, [][]byte{}, api.ErrShape},
		{"an empty row", f, [][]byte{{}}, api.ErrShape},
		{"a nil row", f, [][]byte{nil}, api.ErrShape},
		{"empty rows, more than 256", f, make([][]byte, 257), api.ErrShape},
		{"the first row empty", f, [][]byte{{}, {1}}, api.ErrShape},
		{"the last row empty", f, [][]byte{{1}, {}}, api.ErrShape},
		{"the second row shorter", f, [][]byte{{1, 2}, {3}}, api.ErrShape},
		{"the third row longer", f, [][]byte{{1}, {2}, {3, 4}}, api.ErrShape},
		{"unlike and too long", f, [][]byte{line(257), line(258)}, api.ErrShape},
		{"unlike and too many", f, append(grid(257, 2, func(int, int) byte { return 1 }), line(3)), api.ErrShape},
		{"257 rows", f, grid(257, 1, func(int, int) byte { return 1 }), api.ErrLong},
		{"257 columns", f, [][]byte{line(257)}, api.ErrLong},
		{"257 of both", f, grid(257, 257, func(int, int) byte { return 1 }), api.ErrLong},
	} {
		m, e := matrix.New(k.field, k.rows)
		refused(t, "P2.1: New of "+k.what, k.err, m, e)
	}
	r := draws()
	for _, size := range [][2]int{{1, 1}, {1, 256}, {256, 1}, {256, 256}, {3, 5}} {
		rows := drawn(r, size[0], size[1], 256)
		m, e := matrix.New(f, rows)
		want(t, "P2.1: New", rows, m, e)
		if a, b := m.Size(); a != size[0] || b != size[1] {
			t.Errorf("P2.3: Size of %v: %d, %d", size, a, b)
		}
	}
}

func TestIdentity(t *testing.T) {
	f := gf.Std()
	for _, n := range []int{1, 2, 3, 17, 255, 256} {
		m, e := matrix.Identity(f, n)
		want(t, "P2.2: Identity", one(n), m, e)
	}
	for _, n := range []int{0, -1, math.MinInt} {
		m, e := matrix.Identity(f, n)
		refused(t, "P2.2: Identity of too few", api.ErrArg, m, e)
	}
	for _, n := range []int{257, math.MaxInt} {
		m, e := matrix.Identity(f, n)
		refused(t, "P2.2: Identity of too many", api.ErrLong, m, e)
	}
	for _, n := range []int{-1, 1, 257} {
		m, e := matrix.Identity(nil, n)
		refused(t, "P2.2: Identity without a field", api.ErrArg, m, e)
	}
}

func TestVandermonde(t *testing.T) {
	for _, f := range fields(t) {
		all := make([]byte, 256)
		for i := range all {
			all[i] = byte(255 - i)
		}
		for _, k := range []struct {
			points []byte
			cols   int
		}{{[]byte{0}, 1}, {[]byte{0, 1, 2}, 3}, {[]byte{3, 3, 0, 3}, 6}, {all, 256}, {all, 1}, {[]byte{7}, 256}} {
			m, e := matrix.Vandermonde(f, k.points, k.cols)
			want(t, "P2.2: Vandermonde", grid(len(k.points), k.cols, func(i int, j int) byte {
				p, _ := f.Pow(k.points[i], j)
				return p
			}), m, e)
		}
	}
	f := gf.Std()
	m, e := matrix.Vandermonde(f, []byte{0, 1, 2}, 3)
	want(t, "P2.2: Vandermonde of the example", [][]byte{{1, 0, 0}, {1, 1, 1}, {1, 2, 4}}, m, e)
	for _, k := range []struct {
		field  *gf.Field
		points int
		cols   int
		err    api.Errno
	}{
		{nil, 0, 0, api.ErrArg}, {nil, 1, 1, api.ErrArg}, {nil, 257, 257, api.ErrArg},
		{f, 0, 1, api.ErrShape}, {f, 0, 257, api.ErrShape}, {f, 1, 0, api.ErrShape}, {f, 1, math.MinInt, api.ErrShape}, {f, 257, 0, api.ErrShape},
		{f, 257, 1, api.ErrLong}, {f, 1, 257, api.ErrLong}, {f, 1, math.MaxInt, api.ErrLong},
	} {
		m, e := matrix.Vandermonde(k.field, make([]byte, k.points), k.cols)
		refused(t, "P2.2: Vandermonde", k.err, m, e)
	}
}

func TestCauchy(t *testing.T) {
	var low, high []byte
	for i := range 128 {
		low, high = append(low, byte(i)), append(high, byte(255-i))
	}
	manyTwos := bytes.Repeat([]byte{2}, 256)
	for _, f := range fields(t) {
		for _, k := range [][2][]byte{{{1}, {0}}, {{2}, {0}}, {{1, 2, 3}, {9, 8}}, {{5, 5}, {6, 6, 6}}, {low, high}, {manyTwos, {3}}, {{3}, manyTwos}} {
			m, e := matrix.Cauchy(f, k[0], k[1])
			want(t, "P2.2: Cauchy", grid(len(k[0]), len(k[1]), func(i int, j int) byte {
				x, _ := f.Inv(k[0][i] ^ k[1][j])
				return x
			}), m, e)
		}
	}
	f := gf.Std()
	m, e := matrix.Cauchy(f, []byte{2}, []byte{0})
	want(t, "P2.2: Cauchy of the example", [][]byte{{0x8e}}, m, e)
	long := bytes.Repeat([]byte{1}, 257)
	for _, k := range []struct {
		field  *gf.Field
		xs, ys []byte
		err    api.Errno
	}{
		{nil, nil, nil, api.ErrArg}, {nil, []byte{1}, []byte{2}, api.ErrArg}, {nil, long, long, api.ErrArg}, {nil, []byte{1}, []byte{1}, api.ErrArg},
		{f, nil, []byte{1}, api.ErrShape}, {f, []byte{1}, nil, api.ErrShape}, {f, long, nil, api.ErrShape}, {f, []byte{}, long, api.ErrShape},
		{f, long, []byte{2}, api.ErrLong}, {f, []byte{2}, long, api.ErrLong}, {f, long, []byte{1}, api.ErrLong}, {f, []byte{1}, long, api.ErrLong},
		{f, []byte{1, 2}, []byte{2}, api.ErrZero}, {f, []byte{7}, []byte{5, 6, 7}, api.ErrZero}, {f, []byte{0}, []byte{0}, api.ErrZero},
	} {
		m, e := matrix.Cauchy(k.field, k.xs, k.ys)
		refused(t, "P2.2: Cauchy", k.err, m, e)
	}
}

func TestMul(t *testing.T) {
	r := draws()
	for _, f := range fields(t) {
		for _, size := range [][3]int{{1, 1, 1}, {2, 3, 4}, {4, 1, 3}, {1, 5, 1}, {7, 7, 7}, {256, 3, 256}, {2, 256, 2}} {
			a, b := drawn(r, size[0], size[1], 256), drawn(r, size[1], size[2], 256)
			m, e := made(t, f, a).Mul(made(t, f, b))
			want(t, "P2.4: Mul", times(f, a, b), m, e)
		}
	}
	f, again := gf.Std(), gf.Std()
	other, _ := gf.New(0x12b)
	pair := [][]byte{{1, 2}, {3, 4}}
	m := made(t, f, pair)
	p, e := m.Mul(made(t, again, one(2)))
	want(t, "P2.4: Mul with a matrix of another object of the field", pair, p, e)
	for _, k := range []struct {
		what string
		o    *matrix.Matrix
		err  api.Errno
	}{
		{"nothing", nil, api.ErrArg},
		{"another field's", made(t, other, pair), api.ErrArg},
		{"another field's of another shape", made(t, other, [][]byte{{1}}), api.ErrArg},
		{"one of too few rows", made(t, f, [][]byte{{1, 2}}), api.ErrShape},
		{"one of too many rows", made(t, f, [][]byte{{1, 2}, {1, 2}, {1, 2}}), api.ErrShape},
	} {
		p, e := m.Mul(k.o)
		refused(t, "P2.4: Mul with "+k.what, k.err, p, e)
	}
	wide := made(t, f, [][]byte{{1, 2, 3}, {4, 5, 6}})
	p, e = wide.Mul(wide)
	refused(t, "P2.4: Mul of two wide ones", api.ErrShape, p, e)
}

func TestApply(t *testing.T) {
	r := draws()
	for _, f := range fields(t) {
		for _, size := range [][2]int{{1, 1}, {2, 3}, {3, 2}, {256, 256}, {1, 256}, {256, 1}} {
			a, v := drawn(r, size[0], size[1], 256), drawn(r, 1, size[1], 256)[0]
			got, e := made(t, f, a).Apply(v)
			if column := turned(times(f, a, turned([][]byte{v})))[0]; e != api.OK || !bytes.Equal(got, column) {
				t.Errorf("P2.4: Apply of %v: %v, %d, want %v", size, got, e, column)
			}
		}
	}
	m := made(t, gf.Std(), [][]byte{{1, 1, 0}, {1, 2, 0}})
	if v, e := m.Apply([]byte{1, 1, 9}); e != api.OK || !bytes.Equal(v, []byte{0, 3}) {
		t.Errorf("P2.4: Apply of the example: %v, %d", v, e)
	}
	for _, n := range []int{0, 1, 2, 4, 300} {
		if v, e := m.Apply(make([]byte, n)); e != api.ErrShape || len(v) != 0 {
			t.Errorf("P2.4: Apply to %d of 3 elements: %v, %d", n, v, e)
		}
	}
}

func TestTranspose(t *testing.T) {
	r := draws()
	for _, size := range [][2]int{{1, 1}, {2, 3}, {256, 1}, {1, 256}, {5, 5}} {
		rows := drawn(r, size[0], size[1], 256)
		m := made(t, gf.Std(), rows).Transpose()
		want(t, "P2.4: Transpose", turned(rows), m, api.OK)
		if a, b := m.Size(); a != size[1] || b != size[0] {
			t.Errorf("P2.4: Size of the transpose of %v: %d, %d", size, a, b)
		}
		want(t, "P2.4: Transpose twice", rows, m.Transpose(), api.OK)
	}
}

func TestPick(t *testing.T) {
	f := gf.Std()
	m := made(t, f, [][]byte{{1, 2}, {3, 4}})
	p, e := m.Pick([]int{1, 1, 0})
	want(t, "P2.4: Pick of the example", [][]byte{{3, 4}, {3, 4}, {1, 2}}, p, e)
	p, e = m.Pick([]int{1})
	want(t, "P2.4: Pick of one", [][]byte{{3, 4}}, p, e)
	p, e = m.Pick(make([]int, 256))
	want(t, "P2.4: Pick of 256", grid(256, 2, func(_ int, j int) byte { return byte(j + 1) }), p, e)
	tooMany := make([]int, 257)
	wrongToo := append([]int{5}, tooMany...)
	for _, k := range []struct {
		rows []int
		err  api.Errno
	}{
		{nil, api.ErrShape}, {[]int{}, api.ErrShape}, {tooMany, api.ErrLong}, {wrongToo, api.ErrLong},
		{[]int{2}, api.ErrIndex}, {[]int{-1}, api.ErrIndex}, {[]int{0, 1, 2}, api.ErrIndex}, {[]int{math.MaxInt, 0}, api.ErrIndex}, {[]int{0, math.MinInt}, api.ErrIndex},
	} {
		p, e := m.Pick(k.rows)
		refused(t, "P2.4: Pick", k.err, p, e)
	}
}

// What is answered is of the same field: products with it are that field's.
func TestFieldGoesOn(t *testing.T) {
	f, _ := gf.New(0x1f5)
	m := made(t, f, [][]byte{{2, 3}, {5, 0x80}})
	v, _ := matrix.Vandermonde(f, []byte{2, 0x80}, 2)
	c, _ := matrix.Cauchy(f, []byte{2, 0x80}, []byte{3, 4})
	i, _ := matrix.Identity(f, 2)
	product, _ := m.Mul(m)
	picked, _ := m.Pick([]int{1, 0})
	inverse, _ := m.Invert()
	for n, o := range []*matrix.Matrix{v, c, i, product, picked, inverse, m.Transpose()} {
		p, e := o.Mul(m)
		want(t, "P2.4: Mul", times(f, o.Rows(), m.Rows()), p, e)
		if e != api.OK {
			t.Errorf("P2.4: matrix %d is of another field", n)
		}
	}
}

package matrix_test

import (
	"bytes"
	"sync"
	"testing"

	"sherd/api"
	"sherd/gf"
	"sherd/matrix"
)

func TestNil(t *testing.T) {
	var none *matrix.Matrix
	m := made(t, gf.Std(), [][]byte{{1}})
	if a, b := none.Size(); a != 0 || b != 0 || none.Rank() != 0 || len(none.Rows()) != 0 || none.Transpose() != nil {
		t.Error("P2.7: a nil matrix tells something")
	}
	for _, o := range []*matrix.Matrix{nil, m} {
		p, e := none.Mul(o)
		refused(t, "P2.7: Mul of nil", api.OK, p, e)
	}
	for _, rows := range [][]int{nil, {0}, {-1}, make([]int, 257)} {
		p, e := none.Pick(rows)
		refused(t, "P2.7: Pick of nil", api.OK, p, e)
	}
	x, e := none.Invert()
	refused(t, "P2.7: Invert of nil", api.OK, x, e)
	for _, v := range [][]byte{nil, {1}} {
		if x, e := none.Apply(v); len(x) != 0 || e != api.OK {
			t.Errorf("P2.7: Apply of nil: %v, %d", x, e)
		}
		if x, e := none.Solve(v); len(x) != 0 || e != api.OK {
			t.Errorf("P2.7: Solve of nil: %v, %d", x, e)
		}
	}
}

// roomy: rows with spare room behind each, in which a mark stands.
func roomy(rows [][]byte) ([][]byte, func() bool) {
	all := make([][]byte, len(rows))
	for i, row := range rows {
		all[i] = append(append([]byte{}, row...), 0xaa, 0xbb)[:len(row)]
	}
	whole := func() bool {
		for i, row := range all {
			if !bytes.Equal(row, rows[i]) || !bytes.Equal(row[len(row):len(row)+2], []byte{0xaa, 0xbb}) {
				return false
			}
		}
		return true
	}
	return all, whole
}

func TestHandedInIsNotChangedNorKept(t *testing.T) {
	f := gf.Std()
	rows := [][]byte{{0, 1, 7}, {1, 2, 8}, {5, 6, 7}}
	in, whole := roomy(rows)
	m, _ := matrix.New(f, in)
	vector, vectorWhole := roomy([][]byte{{9, 8, 7}})
	m.Apply(vector[0])
	m.Solve(vector[0])
	matrix.Vandermonde(f, vector[0], 3)
	matrix.Cauchy(f, vector[0], []byte{1, 2})
	m.Mul(m)
	m.Invert()
	m.Rank()
	if !whole() || !vectorWhole() {
		t.Error("P2: what was handed in was changed")
	}
	in[0][0], in[1] = 99, []byte{3, 3, 3}
	want(t, "P2.7: a matrix behind a change of the rows it was made of", rows, m, api.OK)

	points, ys := []byte{1, 2}, []byte{5, 6}
	v, _ := matrix.Vandermonde(f, points, 2)
	c, _ := matrix.Cauchy(f, points, ys)
	was := c.Rows()
	points[0], ys[0] = 77, 78
	want(t, "P2.7: Vandermonde behind a change of its points", [][]byte{{1, 1}, {1, 2}}, v, api.OK)
	want(t, "P2.7: Cauchy behind a change of its points", was, c, api.OK)
	picks := []int{2, 0}
	p, _ := m.Pick(picks)
	picks[0] = 1
	want(t, "P2.7: Pick behind a change of its list", [][]byte{{5, 6, 7}, {0, 1, 7}}, p, api.OK)
}

// A field is an object too: who writes another one over it changes no matrix that was made with it.
func TestFieldIsNotKept(t *testing.T) {
	f, _ := gf.New(0x11d)
	other, _ := gf.New(0x12b)
	m := made(t, f, [][]byte{{2, 3}, {5, 0x80}})
	kept := m.Transpose()
	before, _ := m.Mul(m)
	*f = *other
	after, e := m.Mul(m)
	want(t, "P2.7: Mul behind a change of the field", before.Rows(), after, e)
	*m = matrix.Matrix{}
	if v, e := kept.Apply([]byte{0x80, 0}); e != api.OK || !bytes.Equal(v, []byte{0x1d, gf.Std().Mul(3, 0x80)}) {
		t.Errorf("P2.7: the transpose behind the end of what it came of: %v, %d", v, e)
	}
}

// scribble writes over all that was handed out, and appends to it.
func scribble(rows [][]byte) {
	for i, row := range rows {
		for j := range row {
			row[j] ^= 0xff
		}
		_ = append(row, 0xff)
		rows[i] = nil
	}
	_ = append(rows, nil)
}

func TestHandedOutIsNew(t *testing.T) {
	f := gf.Std()
	rows := [][]byte{{0, 1, 7}, {1, 2, 8}, {5, 6, 7}}
	m := made(t, f, rows)
	scribble(m.Rows())
	want(t, "P2.7: a matrix behind writing into its rows", rows, m, api.OK)
	v := []byte{1, 2, 3}
	a, _ := m.Apply(v)
	s, _ := m.Solve(v)
	scribble([][]byte{a, s})
	again, _ := m.Apply(v)
	if !bytes.Equal(again, []byte{gf.Add(2, f.Mul(7, 3)), gf.Add(gf.Add(1, f.Mul(2, 2)), f.Mul(8, 3)), gf.Add(gf.Add(5, f.Mul(6, 2)), f.Mul(7, 3))}) {
		t.Errorf("P2.7: Apply behind writing into its answer: %v", again)
	}
	if !bytes.Equal(v, []byte{1, 2, 3}) {
		t.Error("P2.7: an answer is the column that was handed in")
	}
	want(t, "P2.7: a matrix behind all calls", rows, m, api.OK)
	twice := m.Rows()
	twice[0] = append(twice[0], 1)
	if twice[0][0]++; twice[1][0] != 1 || twice[2][0] != 5 {
		t.Error("P2.7: two rows of one answer share memory")
	}
}

// A matrix never changes, so goroutines may share it: the race detector looks on.
func TestSharedByGoroutines(t *testing.T) {
	f := gf.Std()
	m, _ := matrix.Cauchy(f, []byte{1, 2, 3, 4}, []byte{5, 6, 7, 8})
	was := m.Rows()
	var group sync.WaitGroup
	for range 8 {
		group.Go(func() {
			x, e := m.Invert()
			if p, _ := m.Mul(x); e != api.OK || !sameRows(p.Rows(), one(4)) || m.Rank() != 4 {
				t.Error("P2.7: a matrix that goroutines share")
			}
			m.Solve([]byte{1, 2, 3, 4})
			m.Pick([]int{3, 0})
			m.Transpose()
		})
	}
	group.Wait()
	want(t, "P2.7: a matrix that goroutines shared", was, m, api.OK)
}

package code_test

import (
	"bytes"
	"slices"
	"sync"
	"testing"

	"sherd/api"
	"sherd/code"
)

func TestNil(t *testing.T) {
	var none *code.Code
	if none.N() != 0 || none.K() != 0 || none.Rows() != nil {
		t.Error("P1: a nil code tells something")
	}
	for _, data := range [][][]byte{nil, {}, {{1}}, {{1}, {}}} {
		if rows, e := none.Encode(data); rows != nil || e != api.OK {
			t.Errorf("P1: Encode of nil: %v, %d", rows, e)
		}
		for _, i := range []int{-1, 0, 1} {
			if row, e := none.Row(data, i); row != nil || e != api.OK {
				t.Errorf("P1: Row of nil: %v, %d", row, e)
			}
		}
	}
	for _, parts := range [][]api.Part{nil, {}, {part(0, 1)}, {part(-1)}, {part(0), part(0, 1)}} {
		refused(t, "P1: of nil", none, parts, api.OK)
	}
}

// roomy: a copy of the rows in one piece of memory, each with spare room behind it that is marked; and whether all of it is as it was.
func roomy(rows [][]byte) ([][]byte, func() bool) {
	var memory []byte
	for _, row := range rows {
		memory = append(append(memory, row...), 0xaa, 0xbb)
	}
	was := bytes.Clone(memory)
	all := make([][]byte, len(rows))
	rest := memory
	for i, row := range rows {
		all[i] = rest[:len(row)]
		rest = rest[len(row)+2:]
	}
	return all, func() bool { return bytes.Equal(memory, was) }
}

func TestHandedInIsNotChanged(t *testing.T) {
	c := made(t, 5, 3)
	data, same := roomy([][]byte{{1, 2}, {3, 4}, {5, 6}})
	list := append(data, []byte{7, 7})[:3]
	rows, _ := c.Encode(list)
	for i := range 5 {
		c.Row(list, i)
	}
	if !same() || !bytes.Equal(list[:4][3], []byte{7, 7}) {
		t.Error("P2: Encode or Row changed the data")
	}
	given, same := roomy(rows)
	for _, wrong := range []bool{false, true} {
		parts := []api.Part{{Index: 4, Data: given[4]}, {Index: 0, Data: given[0]}, {Index: 3, Data: given[3]}, {Index: 1, Data: given[1]}}
		if wrong {
			parts[3].Index = 2
		}
		was := slices.Clone(parts)
		c.Decode(parts)
		for i, p := range parts {
			if p.Index != was[i].Index || &p.Data[0] != &was[i].Data[0] || len(p.Data) != 2 {
				t.Error("P2: Decode changed the list of parts")
			}
		}
	}
	if !same() {
		t.Error("P2: Decode changed the parts")
	}
}

// scribble writes into all rows, and behind each, and says whether a row was seen in another.
func scribble(rows [][]byte) bool {
	for i, row := range rows {
		room := row[:cap(row)]
		for j := range room {
			room[j] = byte(i + 1)
		}
	}
	for i, row := range rows {
		for _, b := range row {
			if b != byte(i+1) {
				return true
			}
		}
	}
	return false
}

func TestAnswersAreNewMemory(t *testing.T) {
	data := [][]byte{{1, 2, 3}, {4, 5, 6}}
	was := [][]byte{{1, 2, 3}, {4, 5, 6}}
	for _, n := range []int{2, 4} {
		c := made(t, n, 2)
		rows, _ := c.Encode(data)
		for i := range n {
			row, _ := c.Row(data, i)
			if !bytes.Equal(row, rows[i]) {
				t.Errorf("C1: Row %d is not Encode's", i)
			}
			scribble([][]byte{row})
		}
		var parts []api.Part
		for i, row := range rows {
			parts = append(parts, part(i, bytes.Clone(row)...))
		}
		got, _ := c.Decode(parts)
		if !sameRows(got, was) || scribble(got) || scribble(rows) {
			t.Error("P2: two rows of one answer share memory")
		}
		if !sameRows(data, was) {
			t.Error("P2: an answer shares memory with the data")
		}
		decodes(t, "P2: the parts behind that", c, parts, was)
	}
	one := made(t, 1, 1)
	p := []api.Part{part(0, 9)}
	got, _ := one.Decode(p)
	got[0][0] = 8
	if p[0].Data[0] != 9 {
		t.Error("P2: Decode's answer shares memory with a part")
	}
}

func TestCodesNeverChange(t *testing.T) {
	want := [][]byte{{1, 0}, {0, 1}, {3, 2}, {2, 3}}
	c, d := made(t, 4, 2), made(t, 4, 2)
	rows := c.Rows()
	if scribble(rows) {
		t.Error("P2: two rows of the generator share memory")
	}
	rows[0] = nil
	for _, again := range []*code.Code{c, d, made(t, 4, 2)} {
		if !sameRows(again.Rows(), want) {
			t.Errorf("C1, P5: the generator is %v behind a change of what was told of it", again.Rows())
		}
	}
	*c = *made(t, 3, 3)
	if d.N() != 4 || d.K() != 2 || !sameRows(made(t, 4, 2).Rows(), want) {
		t.Error("P5: a code that was written over changes another")
	}
}

func TestASecondCodeMakesNoGenerator(t *testing.T) {
	for _, size := range [][2]int{{255, 100}, {100, 100}, {100, 1}} {
		made(t, size[0], size[1])
		if most := testing.AllocsPerRun(20, func() { code.New(size[0], size[1]) }); most > 1 {
			t.Errorf("Ways: a second New of %v makes %v things, want the code alone", size, most)
		}
	}
}

func TestGeneratorsAreTheirOwn(t *testing.T) {
	for n := 1; n <= 40; n++ {
		for k := 1; k <= n; k++ {
			made(t, n, k)
		}
	}
	for n := 40; n >= 1; n-- { // no n and k is taken for another's
		for k := 1; k <= n; k++ {
			rows := made(t, n, k).Rows()
			if len(rows) != n || len(rows[n-1]) != k {
				t.Fatalf("C1: the generator of %d and %d has another size", n, k)
			}
		}
	}
}

func TestManyAtOnce(t *testing.T) {
	var all sync.WaitGroup
	for worker := range 16 {
		all.Go(func() {
			for n := 41; n <= 80; n++ { // sizes that no other test has made yet
				c, e := code.New(n, 1+n/2)
				if e != api.OK {
					t.Errorf("C1: New(%d, %d): %d", n, 1+n/2, e)
					return
				}
				data := make([][]byte, c.K())
				for i := range data {
					data[i] = []byte{byte(worker), byte(i)}
				}
				rows, _ := c.Encode(data)
				var parts []api.Part
				for i := n - c.K(); i < n; i++ {
					parts = append(parts, part(i, rows[i]...))
				}
				if got, e := c.Decode(parts); e != api.OK || !sameRows(got, data) {
					t.Errorf("P3: beside others, the code of %d and %d decodes otherwise: %d", n, c.K(), e)
				}
			}
		})
	}
	all.Wait()
}

func TestManyMakeGeneratorsAtOnce(t *testing.T) {
	var all sync.WaitGroup
	begin := make(chan bool)
	for range 16 {
		all.Go(func() {
			<-begin
			for n := 130; n <= 250; n++ { // quickly made, so that they are stored close behind one another
				for k := 3; k <= 10; k++ {
					if c, e := code.New(n, k); e != api.OK || c.N() != n || c.K() != k {
						t.Errorf("P3: beside others, New(%d, %d): %d", n, k, e)
					}
				}
			}
		})
	}
	close(begin)
	all.Wait()
}

package mend_test

import (
	"bytes"
	"slices"
	"sync"
	"testing"

	"sherd/api"
	"sherd/mend"
)

// roomy: the same bytes, with spare room behind them that is not zero.
func roomy(data []byte) []byte {
	whole := append(bytes.Clone(data), bytes.Repeat([]byte{0xa5}, 8)...)
	return whole[:len(data)]
}

func TestDecodeLeavesWhatIsHandedIn(t *testing.T) {
	r := random()
	c := made(t, 9, 3)
	for bad := range 5 { // none, as many as can be told, and too many
		parts := rows(t, c, noise(r, 3, 300), r.Perm(9))
		for i := range bad {
			spoil(r, parts[i], i)
		}
		var before [][]byte
		for i := range parts {
			parts[i].Data = roomy(parts[i].Data)
			before = append(before, bytes.Clone(parts[i].Data[:cap(parts[i].Data)]))
		}
		spare := append(parts, api.Part{Index: 77})
		parts = spare[:len(parts)]
		indexes := make([]int, len(parts))
		for i, p := range parts {
			indexes[i] = p.Index
		}
		mend.Decode(c, parts)
		for i, p := range parts {
			if p.Index != indexes[i] || !bytes.Equal(p.Data[:cap(p.Data)], before[i]) {
				t.Errorf("P4.3: with %d wrong ones part %d was changed", bad, i)
			}
		}
		if spare[len(parts)].Index != 77 || spare[len(parts)].Data != nil {
			t.Errorf("P4.3: with %d wrong ones the room behind the parts was changed", bad)
		}
	}
}

func TestDecodeAnswersNewMemory(t *testing.T) {
	r := random()
	c := made(t, 9, 3)
	for bad := range 4 {
		data := noise(r, 3, 20)
		parts := rows(t, c, data, []int{8, 0, 1, 2, 3, 4, 5, 6, 7})
		for i := range bad {
			spoil(r, parts[i], i)
		}
		var before [][]byte
		for i := range parts {
			parts[i].Data = roomy(parts[i].Data)
			before = append(before, bytes.Clone(parts[i].Data[:cap(parts[i].Data)]))
		}
		got, wrong, _ := mend.Decode(c, parts)
		for i, row := range got {
			for j := range row {
				row[j] = byte(i) // and as far as there is room behind it
			}
			for j := range row[:cap(row)] {
				row[:cap(row)][j] = byte(i)
			}
		}
		for i, row := range got {
			for _, b := range row[:cap(row)] {
				if b != byte(i) {
					t.Fatalf("P4.3: with %d wrong ones row %d of the data shares memory with another", bad, i)
				}
			}
		}
		for i, p := range parts {
			if !bytes.Equal(p.Data[:cap(p.Data)], before[i]) {
				t.Errorf("P4.3: with %d wrong ones the data shares memory with part %d", bad, i)
			}
		}
		for i := range wrong {
			wrong[i] = 99
		}
		again, wrong, e := mend.Decode(c, parts)
		if e != api.OK || !sameRows(again, data) || len(wrong) != bad || slices.Contains(wrong, 99) {
			t.Errorf("P4.3: with %d wrong ones, asked again: %v, %d", bad, wrong, e)
		}
	}
}

func TestDecodeKeepsNothing(t *testing.T) {
	r := random()
	c := made(t, 9, 3)
	data := noise(r, 3, 20)
	parts := rows(t, c, data, r.Perm(9))
	wrong := []int{parts[4].Index}
	spoil(r, parts[4], 7)
	got, gotWrong, e := mend.Decode(c, parts)
	for i := range parts {
		clear(parts[i].Data)
		parts[i].Index = 0
	}
	if e != api.OK || !sameRows(got, data) || !slices.Equal(gotWrong, wrong) {
		t.Errorf("P4.3: what was answered has changed with the parts: %v, %d", gotWrong, e)
	}
}

func TestDecodeByManyAtOnce(t *testing.T) {
	r := random()
	c := made(t, 20, 8)
	data := noise(r, 8, 400)
	indexes := r.Perm(20)
	parts := rows(t, c, data, indexes)
	for i := range 6 {
		spoil(r, parts[i], 50*i)
	}
	wrong := slices.Sorted(slices.Values(indexes[:6]))
	var group sync.WaitGroup
	for range 16 {
		group.Go(func() {
			for range 5 {
				got, gotWrong, e := mend.Decode(c, parts)
				if e != api.OK || !sameRows(got, data) || !slices.Equal(gotWrong, wrong) {
					t.Errorf("P4.2: asked by many at once: %v, %d", gotWrong, e)
				}
			}
		})
	}
	group.Wait()
}

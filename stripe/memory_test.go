package stripe_test

import (
	"bytes"
	"slices"
	"sync"
	"testing"

	"sherd/api"
	"sherd/stripe"
)

// roomy: the bytes with spare room behind, which is filled.
func roomy(data []byte) []byte {
	all := bytes.Repeat([]byte{0xee}, len(data)+9)
	copy(all, data)
	return all[:len(data)]
}

// untouched tells whether the spare room behind is as roomy left it.
func untouched(data []byte) bool {
	return bytes.Equal(data[len(data):cap(data)], bytes.Repeat([]byte{0xee}, 9))
}

// overwrite writes all over a list, its spare room too.
func overwrite(data []byte) {
	for i := range data[:cap(data)] {
		data[:cap(data)][i] = 0xaa
	}
}

func TestTheValueIsNotChangedAndNotKept(t *testing.T) {
	c := made(t, 5, 3)
	value := roomy([]byte("some bytes"))
	all, _ := stripe.Split(c, value)
	one, _ := stripe.Cut(c, value, 1)
	if string(value) != "some bytes" || !untouched(value) {
		t.Errorf("P5.5: the value is %q now", value[:cap(value)])
	}
	want := slices.Clone(all)
	for i := range want {
		want[i] = bytes.Clone(all[i])
	}
	overwrite(value)
	if !sameRows(all, want) || !bytes.Equal(one, want[1]) {
		t.Error("P5.5: the fragments hang on the value that was handed in")
	}
}

func TestFragmentsShareNoMemory(t *testing.T) {
	c := made(t, 6, 3)
	value := []byte("some bytes")
	want := fragments(t, c, value)
	for i := range want {
		all, _ := stripe.Split(c, value)
		again, _ := stripe.Split(c, value)
		one, _ := stripe.Cut(c, value, i)
		two, _ := stripe.Cut(c, value, i)
		overwrite(all[i])
		overwrite(one)
		for j := range want {
			if j != i && !bytes.Equal(all[j], want[j].Data) || !bytes.Equal(again[j], want[j].Data) {
				t.Errorf("P5.5: writing into fragment %d changed fragment %d", i, j)
			}
		}
		if !bytes.Equal(two, want[i].Data) || string(value) != "some bytes" {
			t.Errorf("P5.5: writing into fragment %d changed another answer, or the value", i)
		}
	}
}

func roomyParts(parts []api.Part) []api.Part {
	all := make([]api.Part, len(parts), len(parts)+2)
	for i, p := range parts {
		all[i] = api.Part{Index: p.Index, Data: roomy(p.Data)}
	}
	all = append(all, part(77, "x"), part(78, "y"))
	return all[:len(parts)]
}

func sameParts(a []api.Part, b []api.Part) bool {
	return slices.EqualFunc(a, b, func(x api.Part, y api.Part) bool {
		return x.Index == y.Index && bytes.Equal(x.Data, y.Data)
	})
}

func checkParts(t *testing.T, name string, parts []api.Part, want []api.Part) {
	t.Helper()
	behind := parts[len(parts):cap(parts)]
	if !sameParts(parts, want) || !sameParts(behind, []api.Part{part(77, "x"), part(78, "y")}) {
		t.Errorf("P5.5: %s changed the list of parts", name)
	}
	for _, p := range parts {
		if !untouched(p.Data) {
			t.Errorf("P5.5: %s changed the room behind part %d", name, p.Index)
		}
	}
}

func TestPartsAreNotChangedAndNotKept(t *testing.T) {
	r := random()
	c := made(t, 7, 3)
	value := []byte("some bytes")
	for _, m := range []int{3, 5, 7} {
		right := chosen(r, fragments(t, c, value), m)
		parts := roomyParts(right)
		got, e := stripe.Join(c, parts)
		checkParts(t, "Join", parts, right)
		for _, p := range parts {
			overwrite(p.Data)
		}
		if e != api.OK || !bytes.Equal(got, value) {
			t.Errorf("P5.5: %d parts: the value of Join hangs on them: %q, %d", m, got, e)
		}

		spoilt(r, right, (m-3)/2)
		parts = roomyParts(right)
		got, wrong, e := stripe.Mend(c, parts)
		checkParts(t, "Mend", parts, right)
		told := slices.Clone(wrong)
		for i := range parts {
			overwrite(parts[i].Data)
			parts[i].Index = 0
		}
		if e != api.OK || !bytes.Equal(got, value) || !slices.Equal(told, wrong) {
			t.Errorf("P5.5: %d parts: the answer of Mend hangs on them: %q, %v, %d", m, got, wrong, e)
		}
	}
}

func TestAValueIsNewMemory(t *testing.T) {
	c := made(t, 4, 2)
	for _, text := range []string{"", "x", "some bytes", "some bytes of odd length."} {
		parts := fragments(t, c, []byte(text))
		right := chosen(random(), parts, 4)
		slices.SortFunc(right, func(a api.Part, b api.Part) int { return a.Index - b.Index })
		first, _ := stripe.Join(c, parts)
		second, _ := stripe.Join(c, parts)
		third, _, _ := stripe.Mend(c, parts)
		overwrite(first)
		first = append(first, "more"...)
		overwrite(first)
		if !sameParts(parts, right) || string(second) != text || string(third) != text {
			t.Errorf("P5.5: writing into %q that was joined changed the parts, or another answer", text)
		}
		overwrite(third)
		if !sameParts(parts, right) || string(second) != text {
			t.Errorf("P5.5: writing into %q that was mended changed the parts, or another answer", text)
		}
	}
}

func TestGoroutinesMayShareACode(t *testing.T) {
	r := random()
	c := made(t, 9, 4)
	var group sync.WaitGroup
	for range 8 {
		value := noise(r, 200)
		order := chosen(r, fragments(t, c, value), 8)
		wrong := spoilt(r, order, 2)
		group.Go(func() {
			all, _ := stripe.Split(c, value)
			last, _ := stripe.Cut(c, value, 8)
			got, told, e := stripe.Mend(c, order)
			if e != api.OK || !bytes.Equal(got, value) || !slices.Equal(told, wrong) || !bytes.Equal(all[8], last) {
				t.Errorf("P3: beside others: %x, %v, %d", got, told, e)
			}
		})
	}
	group.Wait()
}

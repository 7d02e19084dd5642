package record_test

import (
	"bytes"
	"slices"
	"sync"
	"testing"

	"sherd/api"
	"sherd/record"
)

// roomy: a copy with spare room behind, which is filled.
func roomy(b []byte) []byte {
	all := append(bytes.Clone(b), bytes.Repeat([]byte{0xee}, 16)...)
	return all[:len(b)]
}

// overwrite writes all over a list, its spare room too.
func overwrite(b []byte) {
	b = b[:cap(b)]
	for i := range b {
		b[i] = 0xaa
	}
}

func TestWhatIsHandedInIsNotChangedAndNotKept(t *testing.T) {
	w, log, _ := record.New(example)
	for _, u := range edgeUpdates() {
		want := with(log, bodyBytes(u))
		given := u
		given.Entry.Data = roomy(u.Entry.Data)
		before := bytes.Clone(given.Entry.Data[:cap(given.Entry.Data)])
		b, _ := w.Put(given)
		if !bytes.Equal(given.Entry.Data[:cap(given.Entry.Data)], before) {
			t.Fatalf("P11.7: Put changed the data of %v", u)
		}
		overwrite(given.Entry.Data)
		log = append(log, b...)
		if !bytes.Equal(log, want) {
			t.Fatalf("P11.7: a record hangs on the data that was handed in")
		}
	}

	given := roomy(log)
	before := bytes.Clone(given[:cap(given)])
	got, v := told(t, given)
	if !bytes.Equal(given[:cap(given)], before) {
		t.Fatalf("P11.7: Scan changed the bytes")
	}
	overwrite(given)
	if !sameFound(got, scanByWords(log)) {
		t.Fatalf("P11.7: what Scan found hangs on the bytes that were handed in")
	}
	checkSameNext(t, v, w)
}

// TestRefusedBytesAreNotChanged: of every reason.
func TestRefusedBytesAreNotChanged(t *testing.T) {
	log, _ := logOf(example, fin("k", 1, 1))
	for _, data := range [][]byte{nil, {0x48}, append(bytes.Clone(log), 0), append(bytes.Clone(log), 0x52, 0x80, 0), log[:len(log)-1], append(bytes.Clone(log), log[9:]...), with(log, []byte{9})} {
		given := roomy(data)
		before := bytes.Clone(given[:cap(given)])
		if got, _ := told(t, given); got.why == api.OK && got.e == api.OK || !bytes.Equal(given[:cap(given)], before) {
			t.Errorf("P11.7: Scan changed %x, or all of it stands", data)
		}
	}
}

func TestWhatIsHandedOutIsNewMemory(t *testing.T) {
	w, head, _ := record.New(example)
	v, second, _ := record.New(example)
	log := bytes.Clone(head)
	overwrite(head)
	overwrite(append(head, 1, 2, 3))
	if !bytes.Equal(second, log) {
		t.Fatalf("P11.7: writing into a head changed another")
	}
	for _, u := range edgeUpdates() {
		before := bytes.Clone(u.Entry.Data)
		b, _ := w.Put(u)
		c, _ := v.Put(u)
		log = append(log, b...)
		overwrite(b)
		overwrite(append(b, 1, 2, 3))
		if !bytes.Equal(c, log[len(log)-len(b):]) || !bytes.Equal(u.Entry.Data, before) {
			t.Fatalf("P11.7: writing into a record changed another, or the update")
		}
	}
	checkSameNext(t, w, v)
	checkLists(t, log)
}

// checkLists: all over each list that Scan hands out is written, and no other one sees it.
func checkLists(t *testing.T, log []byte) {
	t.Helper()
	before := bytes.Clone(log)
	want := scanByWords(log)
	one, w := told(t, log)
	two, _ := told(t, log)
	for i := range one.updates {
		overwrite(one.updates[i].Entry.Data)
		overwrite(append(one.updates[i].Entry.Data, 1, 2, 3))
		if !slices.EqualFunc(one.updates[i+1:], want.updates[i+1:], sameUpdate) || !slices.Equal(one.marks, want.marks) {
			t.Fatalf("P11.7: writing into the data of update %d changed another list", i)
		}
	}
	for i := range one.updates[:cap(one.updates)] {
		one.updates[:cap(one.updates)][i] = api.Update{}
	}
	if !slices.Equal(one.marks, want.marks) {
		t.Fatalf("P11.7: writing into the updates changed the marks")
	}
	for i := range one.marks[:cap(one.marks)] {
		one.marks[:cap(one.marks)][i] = -1
	}
	if !bytes.Equal(log, before) || !sameFound(two, want) {
		t.Fatalf("P11.7: writing into what Scan found changed the bytes, or what another found")
	}
	if got := checkPut(t, w, log, fin("k", 1, 1)); len(got) == len(log) {
		t.Fatalf("P11.7: the writer doesn't go on")
	}
}

// TestObjectsHaveNothingToDoWithEachOther: writers of one head and of one Scan's bytes part.
func TestObjectsHaveNothingToDoWithEachOther(t *testing.T) {
	log, _ := logOf(example, fin("k", 1, 1))
	_, a := told(t, log)
	_, b := told(t, log)
	first := checkPut(t, a, log, fin("a", 1, 1))
	second := checkPut(t, b, log, fin("b", 1, 1))
	checkPut(t, a, first, fin("same", 2, 2))
	checkPut(t, b, second, fin("same", 2, 2))
	if a.Count() != 3 || b.Count() != 3 {
		t.Errorf("P5: Count %d and %d", a.Count(), b.Count())
	}
}

func TestOthersBeside(t *testing.T) {
	var group sync.WaitGroup
	us := edgeUpdates()
	for n := range 32 {
		group.Go(func() {
			h := edgeHeads()[n%len(edgeHeads())]
			mine := us[n : n+100]
			w, log, _ := record.New(h)
			for _, u := range mine {
				b, _ := w.Put(u)
				log = append(log, b...)
			}
			want, _ := logOf(h, mine...)
			_, got, _, why, _, e := record.Scan(log)
			if !bytes.Equal(log, want) || why != api.OK || e != api.OK || !slices.EqualFunc(got, own(mine), sameUpdate) {
				t.Errorf("P3: beside others: %d updates, %d, %d", len(got), why, e)
			}
		})
	}
	group.Wait()
}

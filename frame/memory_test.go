package frame_test

import (
	"bytes"
	"sync"
	"testing"

	"sherd/api"
	"sherd/frame"
)

// roomy: a copy with spare room behind, which is filled.
func roomy(b []byte) []byte {
	all := append(bytes.Clone(b), bytes.Repeat([]byte{0xee}, 16)...)
	return all[:len(b)]
}

// overwrite writes all over a list, its spare room too.
func overwrite(b []byte) {
	b = b[:cap(b)]
	for i := range b {
		b[i] = 0xaa
	}
}

func TestWhatIsHandedInIsNotChangedAndNotKept(t *testing.T) {
	for _, m := range edgeMessages() {
		want := summed(bodyByWords(m))
		m.Data = roomy(m.Data)
		before := bytes.Clone(m.Data[:cap(m.Data)])
		frame.Check(m)
		f, _ := frame.Encode(m)
		if !bytes.Equal(m.Data[:cap(m.Data)], before) {
			t.Fatalf("P2: the data of %v was changed", m)
		}
		overwrite(m.Data)
		if !bytes.Equal(f, want) {
			t.Fatalf("P2: the frame hangs on the data that was handed in")
		}

		data := roomy(f)
		before = bytes.Clone(data[:cap(data)])
		first, _ := frame.Decode(data)
		if !bytes.Equal(data[:cap(data)], before) {
			t.Fatalf("P2: Decode changed %x", f)
		}
		overwrite(data)
		if again, e := frame.Encode(first); e != api.OK || !bytes.Equal(again, want) {
			t.Fatalf("P2: the message hangs on the bytes that were handed in")
		}
	}
}

func TestWhatIsHandedOutIsNewMemory(t *testing.T) {
	for _, m := range edgeMessages() {
		data := bytes.Clone(m.Data)
		first, _ := frame.Encode(m)
		second, _ := frame.Encode(m)
		want := bytes.Clone(second)
		overwrite(first)
		overwrite(append(first, 1, 2, 3))
		if !bytes.Equal(second, want) || !bytes.Equal(m.Data, data) {
			t.Fatalf("P2: writing into a frame changed another, or the message")
		}
		one, _ := frame.Decode(second)
		two, _ := frame.Decode(second)
		overwrite(one.Data)
		overwrite(append(one.Data, 1, 2, 3))
		if !bytes.Equal(second, want) || !same(two, m) {
			t.Fatalf("P2: writing into a message's data changed another, or the bytes")
		}
	}
}

// TestRefusedBytesAreNotChanged: of every kind of refusal.
func TestRefusedBytesAreNotChanged(t *testing.T) {
	for _, data := range [][]byte{{1, 2}, make([]byte, 30), summed([]byte{0}), summed([]byte{3, 1}), make([]byte, 66001)} {
		given := roomy(data)
		before := bytes.Clone(given[:cap(given)])
		if _, e := frame.Decode(given); e == api.OK || !bytes.Equal(given[:cap(given)], before) {
			t.Errorf("P2: %d bytes: changed, or taken: %d", len(data), e)
		}
	}
}

func TestOthersBeside(t *testing.T) {
	var group sync.WaitGroup
	for _, m := range edgeMessages() {
		group.Go(func() {
			f, e := frame.Encode(m)
			got, err := frame.Decode(f)
			if e != api.OK || err != api.OK || !same(got, m) || !bytes.Equal(f, summed(bodyByWords(m))) {
				t.Errorf("P3: beside others: %v, %d, %d", got, e, err)
			}
		})
	}
	group.Wait()
}

package server_test

import (
	"bytes"
	"reflect"
	"sync"
	"testing"

	"sherd/api"
	"sherd/disk"
	"sherd/server"
)

// roomy is a Pre whose data has spare room behind it, which is filled.
func roomy(key string, g api.Tag, data string) api.Message {
	m := pre(key, g, data)
	m.Data = append([]byte(data), bytes.Repeat([]byte{0xee}, 16)...)[:len(data)]
	return m
}

// smear writes all over bytes, and over the spare room behind them.
func smear(data []byte) {
	data = data[:cap(data)]
	for i := range data {
		data[i] = 0xaa
	}
}

func TestAMessageIsNotChangedAndNotKept(t *testing.T) {
	b := newPair(t, 1)
	for n, data := range []string{"some data", "", "x"} {
		given := roomy("k", tg(int64(n+1), 1), data)
		before := bytes.Clone(given.Data[:cap(given.Data)])
		b.do(t, handle(given))
		if !bytes.Equal(given.Data[:cap(given.Data)], before) || len(given.Data) != len(data) {
			t.Fatal("P16.8: Handle changed what it was given")
		}
		smear(given.Data)
		b.check(t, "an overwriting of what was given")
		b.do(t, handle(read("k", tg(int64(n+1), 1))), "an overwriting of what was given")
	}
	b.do(t, call{name: "Compact"}, "an overwriting of what was given")
	b.crash(t, nil, "an overwriting of what was given")
}

// TestARefusedMessageIsNotChanged: where the disk's error, or the message's own, is answered.
func TestARefusedMessageIsNotChanged(t *testing.T) {
	d := disk.New()
	s := opened(t, head, d)
	d.Stop(2, false)
	for _, kind := range []int{api.Fin, api.Pre, api.Pre} {
		m := roomy("k", tg(1, 1), "data")
		m.Kind = kind
		before := m
		before.Data = bytes.Clone(m.Data[:cap(m.Data)])
		if _, e := s.Handle(m); e == api.OK {
			t.Fatal("it is not refused")
		}
		m.Data = m.Data[:cap(m.Data)]
		if !reflect.DeepEqual(m, before) {
			t.Fatal("P16.8: Handle changed what it was given")
		}
	}
}

// TestWhatIsToldIsNewMemory: all that is told may be written over, and appended to.
func TestWhatIsToldIsNewMemory(t *testing.T) {
	b := newPair(t, 1)
	for n := range int64(4) {
		b.do(t, handle(pre("k", tg(n+1, 1), "some data")))
		b.do(t, handle(fin("j", tg(n+1, 1))))
	}
	got, e := b.server.Handle(read("k", tg(2, 1)))
	b.paper.handle(read("k", tg(2, 1)))
	if e != api.OK || len(got) != 1 || string(got[0].Data) != "some data" {
		t.Fatalf("P16.2: Read answers %v, %d", got, e)
	}
	smear(got[0].Data)
	clear(got[:cap(got)])
	b.check(t, "an overwriting of an answer")
	b.do(t, handle(read("k", tg(2, 1))))

	us := b.server.Done()
	for _, u := range us {
		smear(append(u.Entry.Data, 1))
		smear(u.Entry.Data)
	}
	clear(us[:cap(us)])
	b.check(t, "an overwriting of Done")

	all := b.server.All()
	for _, h := range all {
		for _, e := range h.Entries {
			smear(append(e.Data, 1))
			smear(e.Data)
		}
		clear(h.Entries[:cap(h.Entries)])
	}
	clear(all[:cap(all)])
	b.check(t, "an overwriting of All")
	b.do(t, handle(read("k", tg(3, 1))))
	b.do(t, call{name: "Compact"})
	b.crash(t, nil, "an overwriting of what was told")
}

// TestNoTwoListsShareMemory: what is appended to one list of an answer, or written into its spare room, another doesn't see.
func TestNoTwoListsShareMemory(t *testing.T) {
	b := newPair(t, 9)
	for n := range int64(6) {
		b.do(t, handle(pre("k", tg(n+1, 1), "some data")))
		b.do(t, handle(pre("l", tg(n+1, 1), "more")))
	}
	us := b.server.Done()
	for i := range us {
		smear(us[i].Entry.Data)
		for j := i + 1; j < len(us); j++ {
			if !sameUpdates(us[j:j+1], b.paper.done[j:j+1]) {
				t.Fatalf("P16.8: of Done %d and %d share memory", i, j)
			}
		}
	}
	all, want := b.server.All(), held(b.paper.lines)
	for i := range all[0].Entries {
		smear(all[0].Entries[i].Data)
		for j := i + 1; j < len(all[0].Entries); j++ {
			if !sameEntry(all[0].Entries[j], want[0].Entries[j]) {
				t.Fatalf("P16.8: of All %d and %d share memory", i, j)
			}
		}
	}
	clear(all[0].Entries[:cap(all[0].Entries)])
	if !sameAll(all[1:], want[1:]) {
		t.Fatal("P16.8: of All two keys share memory")
	}
	b.check(t, "an overwriting of what was told")
}

// TestTheDiskIsKept: a server's acts are acts of the disk that was given.
func TestTheDiskIsKept(t *testing.T) {
	d := disk.New()
	s := opened(t, head, d)
	answered(t, s, fin("k", tg(1, 1)))
	if d.Acts() != 6 {
		t.Fatalf("P16.1: %d acts, want 6", d.Acts())
	}
	d.Stop(1, false)
	refused(t, s, fin("k", tg(2, 1)), api.ErrDead)
	if !d.Dead() {
		t.Fatal("P16.1: the disk that was given is not the server's")
	}
}

// TestServersBesideEachOther: P5, by goroutines.
func TestServersBesideEachOther(t *testing.T) {
	var all sync.WaitGroup
	for i := range 8 {
		all.Go(func() {
			d := disk.New()
			s, e := server.Open(head, d)
			for n := int64(1); n <= 200; n++ {
				if e != api.OK {
					t.Errorf("P16.1: Open answers %d", e)
					return
				}
				if _, e := s.Handle(pre("k", tg(n, 1), "data")); e != api.OK {
					t.Errorf("P16.2: Pre answers %d", e)
				}
				s.Handle(fin("k", tg(n, 1)))
				if n%8 == int64(i) {
					d = d.Crash(nil)
					s, e = server.Open(head, d)
				}
			}
			if got := text(s.All()); got != "k200.1+data!" {
				t.Errorf("P5: All is %s", got)
			}
		})
	}
	all.Wait()
}

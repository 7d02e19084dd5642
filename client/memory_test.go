package client_test

import (
	"bytes"
	"fmt"
	"math/rand/v2"
	"sync"
	"testing"

	"sherd/api"
	"sherd/client"
)

// scrawl writes into all that a list of requests has, its spare room too.
func scrawl(l []api.Message) {
	l = l[:cap(l)]
	for i := range l {
		data := l[i].Data[:cap(l[i].Data)]
		for j := range data {
			data[j] ^= 0x5a
		}
		l[i] = api.Message{Kind: 99, Key: "scrawl", Data: []byte("scrawl")}
	}
}

// TestValueIsNotKept: the value is the caller's to write into, and nobody else writes into it or behind it.
func TestValueIsNotKept(t *testing.T) {
	room := []byte("value and what stands behind it")
	value := room[:5]
	config := api.Config{N: 3, K: 2}
	c := made(t, config, 7)
	c.Put("k", value)
	if string(room) != "value and what stands behind it" {
		t.Fatalf("P2: Put has written into its value: %q", room)
	}
	copy(value, "other")
	parts := split(config, []byte("value"))
	var pres []api.Message
	for server := range 3 {
		pres, _, _ = c.Handle(to(c, 7, told(server, g(0, 0))))
	}
	for i, m := range pres {
		if !bytes.Equal(m.Data, parts[i]) {
			t.Errorf("P2: behind writing into the value the Pre to %d has %x, want %x", i, m.Data, parts[i])
		}
	}
	if string(room) != "other and what stands behind it" {
		t.Errorf("P2: what was handed in is %q", room)
	}
}

// TestFragmentIsNotKept: what a Gave brings is the caller's to write into.
func TestFragmentIsNotKept(t *testing.T) {
	config := api.Config{N: 4, K: 2}
	parts := split(config, []byte("value"))
	c := made(t, config, 7)
	c.Get("k")
	for server := range 3 {
		says(c, 7, told(server, g(1, 1)))
	}
	var last []byte
	for _, server := range []int{3, 1, 0} {
		room := append(bytes.Clone(parts[server]), "behind"...)
		data := room[:len(parts[server])]
		_, r, end := c.Handle(to(c, 7, with(gave(server, g(1, 1), g(1, 1)), data)))
		if want := append(bytes.Clone(parts[server]), "behind"...); !bytes.Equal(room, want) {
			t.Fatalf("P2: Handle has written into its data: %x, want %x", room, want)
		}
		if end {
			last = r.Value
			if string(last) != "value" {
				t.Fatalf("P2: behind writing into the fragments the Get is %q, %d", last, r.Status)
			}
			for i := range room {
				room[i] = 0x77
			}
			if string(last) != "value" {
				t.Errorf("P2: the value shares memory with a fragment: %q", last)
			}
		}
		for i := range room {
			room[i] = 0x33
		}
	}
	if last == nil {
		t.Fatal("L1: the Get has not ended")
	}
}

// TestAnswersAreNew: long scripts in which all that is answered and all that was handed in is written into, beside a paper that sees nothing of it.
func TestAnswersAreNew(t *testing.T) {
	rnd := rand.New(rand.NewPCG(18, 6))
	for range 300 {
		a := newPair(t, drawConfig(rnd), 3)
		copies := []*client.Client{}
		for range 120 {
			x := drawAct(rnd, a.p, []byte("some value"))
			x.value, x.m.Data = bytes.Clone(x.value), bytes.Clone(x.m.Data)
			want := x.told(a.p)
			got := x.real(a.c)
			if !sameReply(got, want) {
				t.Fatalf("P2: %v is %+v, want %+v", x, got, want)
			}
			for _, b := range [][]byte{x.value, x.m.Data, got.r.Value} {
				for i := range b[:cap(b)] {
					b[:cap(b)][i] = 0xee
				}
			}
			scrawl(got.l)
			scrawl(a.c.Tick())
			a.same(t, x)
			if rnd.IntN(8) == 0 {
				copies = append(copies, a.c)
				a.c = a.c.Copy()
			}
			for _, c := range copies { // what became of these is nobody's business
				scrawl(c.Tick())
				if rnd.IntN(4) == 0 {
					c.Handle(x.m)
				}
			}
		}
	}
}

// TestNoTwoShare: no two messages of one answer have memory in common, nor those of two answers.
func TestNoTwoShare(t *testing.T) {
	for _, config := range []api.Config{{N: 3, K: 1}, {N: 5, K: 3}, {N: 4, K: 4}} {
		c := made(t, config, 7)
		c.Put("k", []byte("value"))
		parts := split(config, []byte("value"))
		var l []api.Message
		for server := 0; nowOf(c).phase == 1; server++ {
			l, _, _ = c.Handle(to(c, 7, told(server, g(0, 0))))
		}
		lists := [][]api.Message{l, c.Tick(), c.Copy().Tick(), c.Tick()}
		for i, l := range lists {
			if len(l) != config.N {
				t.Fatalf("L1: %d Pres", len(l))
			}
			for j, m := range l {
				if !bytes.Equal(m.Data, parts[j]) {
					t.Fatalf("P2: list %d, the Pre to %d has %x, want %x: two share memory", i, j, m.Data, parts[j])
				}
				whole := m.Data[:cap(m.Data)]
				for b := range whole {
					whole[b] ^= 0xa5
				}
			}
		}
		ticks(t, c, text(lists[0]))
	}
}

// TestBesideEachOther: clients in many goroutines, among them copies of one that is under way, which share what is only read.
func TestBesideEachOther(t *testing.T) {
	config := api.Config{N: 5, K: 3}
	value := []byte("a value that is put by many")
	parts := split(config, value)
	put, get := made(t, config, 7), made(t, config, 7)
	put.Put("k", value)
	get.Get("k")
	for server := range 4 {
		says(put, 7, told(server, g(1, 1)))
		says(get, 7, told(server, g(1, 7)))
	}
	for server := range 2 {
		says(get, 7, with(gave(server, g(1, 7), g(1, 7)), parts[server]))
	}
	var group sync.WaitGroup
	for i := range 16 {
		p, r := put.Copy(), get.Copy()
		group.Go(func() {
			for j := range 30 {
				p, r := p.Copy(), r.Copy()
				for server, m := range p.Tick() {
					if !bytes.Equal(m.Data, parts[server]) {
						t.Errorf("P5: the Pre to %d has %x", server, m.Data)
					}
				}
				for server := range 4 {
					says(p, 7, kept(server, g(1, 7)))
				}
				if got, want := text(p.Tick()), "Fin0@1.7 Fin1@1.7 Fin2@1.7 Fin3@1.7 Fin4@1.7"; got != want {
					t.Errorf("P5: beside others Tick is %q", got)
				}
				says(r, 7, with(gave(4, g(1, 7), g(1, 7)), parts[4]))
				if got, want := says(r, 7, gave(2+(i+j)%2, g(1, 7), g(1, 7))), fmt.Sprintf("end 1 false 0 1.7 %s", value); got != want {
					t.Errorf("P5: beside others the Get is %q, want %q", got, want)
				}
			}
		})
	}
	group.Wait()
	ticks(t, put, "Pre0@1.7 Pre1@1.7 Pre2@1.7 Pre3@1.7 Pre4@1.7")
	ticks(t, get, "Read2@1.7 Read3@1.7 Read4@1.7")
}

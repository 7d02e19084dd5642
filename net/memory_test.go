package net_test

import (
	"bytes"
	"slices"
	"sync"
	"testing"

	"sherd/api"
	"sherd/net"
)

// roomy: a copy with spare room behind, which is filled.
func roomy(b []byte) []byte {
	all := append(bytes.Clone(b), bytes.Repeat([]byte{0xee}, 16)...)
	return all[:len(b)]
}

// overwrite writes all over a list, its spare room too.
func overwrite(b []byte) {
	b = b[:cap(b)]
	for i := range b {
		b[i] = 0xaa
	}
}

// overwriteAll writes all over datagrams, their list's spare room too.
func overwriteAll(ps []api.Packet) {
	for _, p := range ps {
		overwrite(p.Data)
	}
	ps = ps[:cap(ps)]
	for i := range ps {
		ps[i] = api.Packet{From: server(99), To: server(98), Data: []byte("overwritten"), Lost: true}
	}
}

func TestWhatIsSentIsNotChangedAndNotKept(t *testing.T) {
	for _, text := range []string{"", "a", "abcdefgh", "a longer one, of more bytes"} {
		given := packet("")
		given.Data = roomy([]byte(text))
		before := bytes.Clone(given.Data[:cap(given.Data)])
		n, w := net.New(), words{oneOf(given)}
		n.Send(given)
		untouched, still := net.New(), words{oneOf(given)}
		untouched.Send(given)
		for _, a := range []act{{"Burst", 0, 0, 7}, {"Cut", 0, 100, 0}, {name: "Double"}, {"Burst", 1, 0, 3}, {"Cut", 0, 1, 0}} {
			w, _ = checkDo(t, n, w, a)
		}
		if !bytes.Equal(given.Data[:cap(given.Data)], before) {
			t.Fatalf("P12.5: what was sent was changed: %q", given.Data[:cap(given.Data)])
		}
		overwrite(given.Data)
		check(t, n, w, "an overwriting of what was sent")
		check(t, untouched, still, "an overwriting of what was sent")
	}
}

// TestRefusedIsNotChanged: too long, or of no node.
func TestRefusedIsNotChanged(t *testing.T) {
	n := net.New()
	for _, p := range []api.Packet{{From: client(1), To: server(255), Data: []byte("abc")}, {From: client(1), To: server(0), Data: make([]byte, api.MaxFrame+1)}} {
		p.Data = roomy(p.Data)
		before := bytes.Clone(p.Data[:cap(p.Data)])
		if e := n.Send(p); e == api.OK || n.Len() != 0 || !bytes.Equal(p.Data[:cap(p.Data)], before) {
			t.Errorf("P12.5: a datagram that was refused: %d, %d in flight", e, n.Len())
		}
	}
}

// ways are lists of acts behind which something is in flight still.
func ways() [][]act {
	return [][]act{
		nil, {{name: "Double"}}, {{name: "Drop"}}, {{name: "Drop", i: 2}}, {{"Burst", 0, 0, 1}}, {{"Burst", 0, 900, 1}}, {{"Cut", 0, 1, 0}}, {{"Cut", 0, 9, 0}}, {{"Cut", 0, 0, 0}}, {{name: "Lose", i: 1}},
		{{name: "Double"}, {"Cut", 0, 2, 0}, {name: "Double"}}, {{"Cut", 0, 2, 0}, {"Burst", 0, 0, 1}, {name: "Double"}, {name: "Take", i: 1}},
	}
}

// after is a network behind these acts.
func after(t *testing.T, acts []act) (*net.Net, words) {
	n, w := flying(t, "abcd", "efgh", "i")
	for _, a := range acts {
		w, _ = checkDo(t, n, w, a)
	}
	return n, w
}

func TestFlightIsNewMemory(t *testing.T) {
	for _, acts := range ways() {
		n, w := after(t, acts)
		first, second := n.Flight(), n.Flight()
		overwriteAll(first)
		check(t, n, w, "an overwriting of what Flight told")
		if !slices.Equal(wordsOf(second), w) {
			t.Fatal("P12.5: two answers of Flight share memory")
		}
		for i := range second { // no two lists of one answer share any
			rest := wordsOf(second)
			overwrite(second[i].Data)
			rest[i] = oneOf(second[i])
			if !slices.Equal(wordsOf(second), rest) {
				t.Fatal("P12.5: two datagrams of one Flight share memory")
			}
		}
		check(t, n, w, "an overwriting of what Flight told, one by one")
	}
}

func TestWhatIsTakenIsTheCallersAlone(t *testing.T) {
	for _, acts := range ways() {
		_, w := after(t, acts)
		for i := range w {
			n, _ := after(t, acts)
			c := n.Copy()
			p, _ := n.Take(i)
			overwrite(p.Data)
			_ = append(p.Data, "behind it"...)
			check(t, c, w, "an overwriting of what was taken from what it was copied from")
			check(t, n, slices.Delete(slices.Clone(w), i, i+1), "an overwriting of what was taken")

			n, _ = after(t, acts)
			p, _ = n.Take(i)
			spoilAll(n) // nor does the network write into it later
			if oneOf(p) != w[i] {
				t.Fatal("P12.5: what was taken is changed by what becomes of the others")
			}
		}
	}
}

// spoilAll does everything to all that is in flight.
func spoilAll(n *net.Net) {
	for i := n.Len() - 1; i >= 0; i-- {
		n.Send(packet("zzzzzzzz"))
		n.Burst(i, 0, 0xffffffff)
		n.Cut(i, 1)
		n.Burst(i, 0, 0xff)
		n.Double(i)
		n.Drop(i)
	}
}

// TestCopiesPart: whichever of the two is told something, and sent to.
func TestCopiesPart(t *testing.T) {
	for _, acts := range ways() {
		n, w := after(t, acts)
		for i := range w {
			for _, a := range allActs(i) {
				one, other := n.Copy(), n.Copy()
				checkDo(t, one, w, a)
				check(t, n, w, "an act at a copy")
				check(t, other, w, "an act at another copy")
				still := n.Copy()
				checkDo(t, other, w, a)
				check(t, still, w, "an act at what it was copied from")
			}
		}
		one, other := n.Copy(), n.Copy() // both grow from the same list
		v, _ := checkSend(t, one, w, packet("one"))
		u, _ := checkSend(t, other, w, packet("other"))
		check(t, one, v, "a Send to another copy")
		check(t, other, u, "a Send to one copy")
		check(t, n, w, "Sends to copies")
	}
}

// TestOriginalGoesOn: what it is told behind a copy's making isn't seen there.
func TestOriginalGoesOn(t *testing.T) {
	for _, a := range allActs(1) {
		n, w := flying(t, "abcd", "efgh", "i")
		c := n.Copy()
		v, _ := checkDo(t, n, w, a)
		check(t, c, w, a.String()+" at what it was copied from")
		checkSend(t, n, v, packet("new"))
		check(t, c, w, "a Send to what it was copied from")
	}
}

// TestBesideEachOther: copies of one network, each in a goroutine of its own (for the race detector).
func TestBesideEachOther(t *testing.T) {
	n, w := flying(t, "abcd", "efgh", "i")
	n.Double(0)
	w = append(slices.Clone(w), w[0])
	var group sync.WaitGroup
	for k := range 8 {
		c := n.Copy()
		group.Go(func() {
			v := slices.Clone(w)
			for i := range 200 {
				for _, a := range []act{{"Burst", i % 4, i % 9, uint32(k)}, {name: "Double", i: i % 4}, {"Cut", (i + 1) % 4, 3, 0}, {name: "Take", i: (i + k) % 5}, {name: "Lose", i: k % 4}} {
					next, taken, e := v.do(a)
					if got, err := do(c, a); err != e || got != taken {
						t.Errorf("P12.4: %v beside others: %d, want %d", a, err, e)
					}
					v = next
				}
			}
			if !slices.Equal(wordsOf(c.Flight()), v) {
				t.Error("P12.4: a copy went another way beside others")
			}
		})
	}
	group.Wait()
	check(t, n, w, "what became of its copies")
}

package net_test

import (
	"fmt"
	"math/rand/v2"
	"slices"
	"strings"
	"testing"

	"sherd/api"
	"sherd/net"
)

// The chapter told a second time: a flight is a list of values that never change (bytes are texts of bits, '0' and '1', the lowest bit of a byte first), and each call makes a new list.

type one struct {
	from, to api.Node
	bits     string
	lost     bool
}

type words []one

func bitsOf(data []byte) string {
	var s strings.Builder
	for _, b := range data {
		for i := range 8 {
			s.WriteByte('0' + b>>i&1)
		}
	}
	return s.String()
}

func oneOf(p api.Packet) one { return one{p.From, p.To, bitsOf(p.Data), p.Lost} }

func wordsOf(ps []api.Packet) words {
	var w words
	for _, p := range ps {
		w = append(w, oneOf(p))
	}
	return w
}

func nodeByWords(n api.Node) bool {
	server := n.Kind == 1 && n.Id >= 0 && n.Id <= 254
	client := n.Kind == 2 && n.Id >= 1 && n.Id <= 65535
	return server || client
}

func (w words) send(p api.Packet) (words, api.Errno) {
	if !nodeByWords(p.From) || !nodeByWords(p.To) {
		return w, api.ErrNode
	}
	if len(p.Data) > 66000 {
		return w, api.ErrLong
	}
	return append(slices.Clone(w), oneOf(p)), api.OK
}

// act is a call with a number; what it doesn't use is zero.
type act struct {
	name    string
	i, n    int
	pattern uint32
}

func (a act) String() string {
	return fmt.Sprintf("%s(%d, %d, %#x)", a.name, a.i, a.n, a.pattern)
}

// do is what the act makes of the flight, what is taken, and the error.
func (w words) do(a act) (words, one, api.Errno) {
	if a.i < 0 || a.i >= len(w) {
		return w, one{}, api.ErrNone
	}
	if (a.name == "Burst" || a.name == "Cut") && a.n < 0 {
		return w, one{}, api.ErrArg
	}
	this := w[a.i]
	ahead, behind := slices.Clone(w[:a.i]), w[a.i+1:]
	switch a.name {
	case "Take":
		return append(ahead, behind...), this, api.OK
	case "Drop":
		return append(ahead, behind...), one{}, api.OK
	case "Double":
		return append(slices.Clone(w), this), one{}, api.OK
	case "Burst":
		this.bits = burstByWords(this.bits, a.n, a.pattern)
	case "Cut":
		if a.n <= len(this.bits)/8 {
			this.bits = this.bits[:8*a.n]
		}
	case "Lose":
		this.lost = true
	}
	return append(append(ahead, this), behind...), one{}, api.OK
}

func burstByWords(bits string, bit int, pattern uint32) string {
	all := []byte(bits)
	for b := range all {
		if b >= bit && b-bit < 32 && pattern>>(b-bit)&1 == 1 {
			all[b] = '0' + '1' - all[b]
		}
	}
	return string(all)
}

// do is the act done to a network; what it took.
func do(n *net.Net, a act) (one, api.Errno) {
	switch a.name {
	case "Take":
		p, e := n.Take(a.i)
		return oneOf(p), e
	case "Drop":
		return one{}, n.Drop(a.i)
	case "Double":
		return one{}, n.Double(a.i)
	case "Burst":
		return one{}, n.Burst(a.i, a.n, a.pattern)
	case "Cut":
		return one{}, n.Cut(a.i, a.n)
	}
	return one{}, n.Lose(a.i)
}

// told is the flight as it can be shown, a few bytes of each.
func told(w words) string {
	var s []string
	for _, o := range w {
		line := fmt.Sprintf("%v>%v %s/%d", o.from, o.to, o.bits[:min(len(o.bits), 64)], len(o.bits)/8)
		if o.lost {
			line += " lost"
		}
		s = append(s, line)
	}
	return strings.Join(s, "; ")
}

// check holds a network against the words.
func check(t *testing.T, n *net.Net, w words, behind string) {
	t.Helper()
	if got := wordsOf(n.Flight()); !slices.Equal(got, w) || n.Len() != len(w) {
		t.Fatalf("P12.1: behind %s: %d in flight, %s; want %d, %s", behind, n.Len(), told(got), len(w), told(w))
	}
}

// checkDo does an act to both and holds them against each other.
func checkDo(t *testing.T, n *net.Net, w words, a act) (words, api.Errno) {
	t.Helper()
	next, taken, e := w.do(a)
	got, err := do(n, a)
	if err != e || got != taken {
		t.Fatalf("P12.3: %v of %s: %s, %d; want %s, %d", a, told(w), told(words{got}), err, told(words{taken}), e)
	}
	check(t, n, next, a.String()+" of "+told(w))
	return next, e
}

// checkSend sends to both and holds them against each other.
func checkSend(t *testing.T, n *net.Net, w words, p api.Packet) (words, api.Errno) {
	t.Helper()
	next, e := w.send(p)
	if err := n.Send(p); err != e {
		t.Fatalf("P12.2: Send from %v to %v of %d bytes: %d, want %d", p.From, p.To, len(p.Data), err, e)
	}
	check(t, n, next, "a Send")
	return next, e
}

func server(id int) api.Node { return api.Node{Kind: api.NServer, Id: id} }

func client(id int) api.Node { return api.Node{Kind: api.NClient, Id: id} }

func packet(text string) api.Packet {
	return api.Packet{From: client(1), To: server(0), Data: []byte(text)}
}

// flying is a network with these in flight.
func flying(t *testing.T, texts ...string) (*net.Net, words) {
	t.Helper()
	n, w := net.New(), words(nil)
	for _, s := range texts {
		w, _ = checkSend(t, n, w, packet(s))
	}
	return n, w
}

// texts are the bytes in flight, a ! behind those that are lost.
func texts(n *net.Net) string {
	var s []string
	for _, p := range n.Flight() {
		text := string(p.Data)
		if p.Lost {
			text += "!"
		}
		s = append(s, text)
	}
	return strings.Join(s, " ")
}

func random() *rand.Rand { return rand.New(rand.NewPCG(12, 2026)) }

func noise(r *rand.Rand, long int) []byte {
	b := make([]byte, long)
	for i := range b {
		b[i] = byte(r.Uint32())
	}
	return b
}

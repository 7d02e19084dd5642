package net_test

import (
	"bytes"
	"math"
	"math/rand/v2"
	"slices"
	"strconv"
	"testing"

	"sherd/api"
	"sherd/net"
)

func TestFirstExample(t *testing.T) {
	n, _ := flying(t, "a", "b", "c")
	if got := texts(n); got != "a b c" {
		t.Errorf("P12.2: Send of a, b, c: %s", got)
	}
	if e := n.Drop(1); e != api.OK || texts(n) != "a c" {
		t.Errorf("P12.3: Drop: %d, %s", e, texts(n))
	}
	if e := n.Double(0); e != api.OK || texts(n) != "a c a" {
		t.Errorf("P12.3: Double: %d, %s", e, texts(n))
	}
	if p, e := n.Take(1); e != api.OK || string(p.Data) != "c" || texts(n) != "a a" {
		t.Errorf("P12.3: Take: %s, %d, %s", p.Data, e, texts(n))
	}
	if p, e := n.Take(2); e != api.ErrNone || oneOf(p) != (one{}) || p.Data != nil {
		t.Errorf("P12.3: Take of none: %v, %d", p, e)
	}
	if e := n.Drop(-1); e != api.ErrNone || texts(n) != "a a" {
		t.Errorf("P12.3: Drop of none: %d, %s", e, texts(n))
	}
}

func TestSecondExample(t *testing.T) {
	n, w := flying(t, "\x01\x02")
	for _, c := range []struct {
		bit     int
		pattern uint32
		want    string
		e       api.Errno
	}{
		{0, 1, "\x00\x02", api.OK}, {7, 3, "\x80\x03", api.OK}, {15, 3, "\x80\x83", api.OK}, {16, 1, "\x80\x83", api.OK}, {3, 0, "\x80\x83", api.OK}, {-1, 1, "\x80\x83", api.ErrArg},
		{math.MaxInt, math.MaxUint32, "\x80\x83", api.OK}, {math.MaxInt - 15, math.MaxUint32, "\x80\x83", api.OK}, {math.MinInt, 1, "\x80\x83", api.ErrArg}, {-1, 0, "\x80\x83", api.ErrArg}, {-31, math.MaxUint32, "\x80\x83", api.ErrArg},
	} {
		var e api.Errno
		w, e = checkDo(t, n, w, act{"Burst", 0, c.bit, c.pattern})
		if e != c.e || texts(n) != c.want {
			t.Errorf("P12.3: Burst(0, %d, %#x): %d, %x", c.bit, c.pattern, e, texts(n))
		}
	}
	if e := n.Burst(1, -1, 1); e != api.ErrNone {
		t.Errorf("P12.3: Burst(1, -1, 1): %d", e)
	}
}

func TestThirdExample(t *testing.T) {
	n, w := flying(t, "abc")
	for _, c := range []struct {
		size int
		want string
		e    api.Errno
	}{
		{5, "abc", api.OK}, {3, "abc", api.OK}, {math.MaxInt, "abc", api.OK}, {-1, "abc", api.ErrArg}, {math.MinInt, "abc", api.ErrArg}, {2, "ab", api.OK}, {3, "ab", api.OK}, {0, "", api.OK}, {-1, "", api.ErrArg}, {1, "", api.OK},
	} {
		var e api.Errno
		w, e = checkDo(t, n, w, act{name: "Cut", n: c.size})
		if e != c.e || texts(n) != c.want || n.Len() != 1 {
			t.Errorf("P12.3: Cut(0, %d): %d, %s, %d in flight", c.size, e, texts(n), n.Len())
		}
	}
	if e := n.Cut(1, -1); e != api.ErrNone {
		t.Errorf("P12.3: Cut(1, -1): %d", e)
	}
}

func TestFourthExample(t *testing.T) {
	n, _ := flying(t, "a")
	if e := n.Lose(0); e != api.OK || texts(n) != "a!" {
		t.Errorf("P12.3: Lose: %d, %s", e, texts(n))
	}
	if e := n.Double(0); e != api.OK || texts(n) != "a! a!" {
		t.Errorf("P12.3: Double of one that is lost: %d, %s", e, texts(n))
	}
	if p, e := n.Take(0); e != api.OK || !p.Lost || string(p.Data) != "a" || texts(n) != "a!" {
		t.Errorf("P12.3: Take: %v, %d, %s", p, e, texts(n))
	}
	if e := n.Lose(0); e != api.OK || texts(n) != "a!" {
		t.Errorf("P12.3: Lose once more: %d, %s", e, texts(n))
	}
}

// TestNodes: all kinds near those that are, with all numbers at an edge, at either end and at both.
func TestNodes(t *testing.T) {
	n, w := net.New(), words(nil)
	ids := []int{math.MinInt, -1 << 32, -65536, -255, -1, 0, 1, 2, 253, 254, 255, 256, 257, 65534, 65535, 65536, 65537, 1 << 32, 1<<32 + 1, math.MaxInt}
	kinds := []int{math.MinInt, -2, -1, 0, 1, 2, 3, 4, 1<<32 + 1, 1<<32 + 2, math.MaxInt}
	met := map[api.Errno]int{}
	for _, kind := range kinds {
		for _, id := range ids {
			for _, p := range []api.Packet{
				{From: api.Node{Kind: kind, Id: id}, To: server(3)}, {From: client(4), To: api.Node{Kind: kind, Id: id}, Data: []byte("x")}, {From: api.Node{Kind: kind, Id: id}, To: api.Node{Kind: kind, Id: id}, Lost: true},
			} {
				var e api.Errno
				w, e = checkSend(t, n, w, p)
				met[e]++
				long := p
				long.Data = make([]byte, api.MaxFrame+1)
				w, _ = checkSend(t, n, w, long)
			}
		}
	}
	if met[api.OK] != 3*(5+9) { // servers 0, 1, 2, 253, 254 and clients 1, 2, 253 to 257, 65534, 65535
		t.Errorf("P12.2: of all nodes near those that are: %v, want %d that are OK", met, 3*(5+9))
	}
}

func TestFifthExample(t *testing.T) {
	n := net.New()
	good := packet("")
	for _, c := range []struct {
		from, to api.Node
		size     int
		e        api.Errno
	}{
		{server(255), good.To, 0, api.ErrNode}, {client(0), good.To, 0, api.ErrNode}, {good.From, api.Node{}, 0, api.ErrNode}, {good.From, client(65536), 0, api.ErrNode},
		{good.From, good.To, 66001, api.ErrLong}, {good.From, good.To, 200000, api.ErrLong}, {server(255), good.To, 66001, api.ErrNode}, {good.From, client(0), 66001, api.ErrNode}, {client(0), server(-1), 66001, api.ErrNode},
	} {
		if e := n.Send(api.Packet{From: c.from, To: c.to, Data: make([]byte, c.size)}); e != c.e || n.Len() != 0 || len(n.Flight()) != 0 {
			t.Errorf("P12.2: Send from %v to %v of %d bytes: %d, %d in flight", c.from, c.to, c.size, e, n.Len())
		}
	}
	for i, c := range []struct {
		from, to api.Node
		size     int
	}{
		{server(254), client(65535), 66000}, {server(0), client(1), 0}, {client(1), client(1), 1}, {server(7), server(7), 65999}, {client(65535), server(254), 2}, {server(3), server(4), 3}, {client(3), client(4), 3},
	} {
		if e := n.Send(api.Packet{From: c.from, To: c.to, Data: make([]byte, c.size)}); e != api.OK || n.Len() != i+1 {
			t.Errorf("P12.2: Send from %v to %v of %d bytes: %d, %d in flight", c.from, c.to, c.size, e, n.Len())
		}
	}
}

// TestLostAsItIsSent: Send looks at nothing but the ends and the length.
func TestLostAsItIsSent(t *testing.T) {
	n := net.New()
	for i, lost := range []bool{true, false, true} {
		p := packet(strconv.Itoa(i))
		p.Lost = lost
		n.Send(p)
	}
	if got := texts(n); got != "0! 1 2!" {
		t.Errorf("P12.2: in flight: %s", got)
	}
}

func TestNothingInFlight(t *testing.T) {
	n := net.New()
	if n == nil || n.Len() != 0 || len(n.Flight()) != 0 {
		t.Fatal("P12.1: New has something in flight")
	}
	for _, i := range []int{math.MinInt, -1, 0, 1, math.MaxInt} {
		for _, a := range allActs(i) {
			if _, e := checkDo(t, n, nil, a); e != api.ErrNone {
				t.Errorf("P12.3: %v of nothing: %d", a, e)
			}
		}
	}
}

// allActs are all acts of that number, with right and wrong orders.
func allActs(i int) []act {
	all := []act{{name: "Take", i: i}, {name: "Drop", i: i}, {name: "Double", i: i}, {name: "Lose", i: i}}
	for _, n := range []int{math.MinInt, -1, 0, 1, 2, 7, 8, 9, math.MaxInt} {
		all = append(all, act{name: "Cut", i: i, n: n}, act{"Burst", i, n, 0}, act{"Burst", i, n, 1}, act{"Burst", i, n, 0x80000001}, act{"Burst", i, n, math.MaxUint32})
	}
	return all
}

// TestEachActAtEachPlace: of a flight of three in which all differ, and one that isn't there.
func TestEachActAtEachPlace(t *testing.T) {
	for i := -2; i <= 4; i++ {
		for _, a := range allActs(i) {
			n, w := net.New(), words(nil)
			for _, p := range []api.Packet{
				{From: client(1), To: server(2), Data: []byte("abc")}, {From: server(2), To: client(1), Data: []byte("x"), Lost: true}, {From: server(0), To: server(0)},
			} {
				w, _ = checkSend(t, n, w, p)
			}
			checkDo(t, n, w, a)
		}
	}
}

// TestAllShortScripts: all lists of a few acts at a small flight, those that are refused among them.
func TestAllShortScripts(t *testing.T) {
	signs := []act{
		{name: "Take", i: 0}, {name: "Take", i: 1}, {name: "Drop", i: 0}, {name: "Drop", i: 2}, {name: "Double", i: 0}, {name: "Double", i: 1}, {name: "Lose", i: 0}, {name: "Lose", i: 2},
		{"Burst", 0, 6, 7}, {"Burst", 1, 0, 1}, {"Burst", 2, -1, 1}, {"Cut", 0, 1, 0}, {"Cut", 1, 0, 0}, {"Cut", 2, 2, 0}, {"Cut", 3, 1, 0}, {name: "Send"},
	}
	met := map[api.Errno]int{}
	var down func(n *net.Net, w words, left int)
	down = func(n *net.Net, w words, left int) {
		if left == 0 {
			return
		}
		for _, a := range signs {
			next, e := n.Copy(), api.OK
			var after words
			if a.name == "Send" {
				after, e = checkSend(t, next, w, packet("zz"))
			} else {
				after, e = checkDo(t, next, w, a)
			}
			met[e]++
			check(t, n, w, "what became of a copy")
			down(next, after, left-1)
		}
	}
	n, w := flying(t, "ab", "c")
	down(n, w, 4)
	for _, e := range []api.Errno{api.OK, api.ErrNone, api.ErrArg} {
		if met[e] < 1000 {
			t.Errorf("only %d came to %d: the test says little", met[e], e)
		}
	}
}

func someNode(r *rand.Rand) api.Node {
	return api.Node{Kind: r.IntN(4), Id: []int{-1, 0, 1, 2, 254, 255, 65535, 65536}[r.IntN(8)]}
}

func somePacket(r *rand.Rand) api.Packet {
	p := api.Packet{From: client(1 + r.IntN(9)), To: server(r.IntN(9)), Data: noise(r, r.IntN(12)), Lost: r.IntN(4) == 0}
	if r.IntN(8) == 0 {
		p.From = someNode(r)
	}
	if r.IntN(8) == 0 {
		p.To = someNode(r)
	}
	return p
}

func someAct(r *rand.Rand, long int) act {
	a := act{name: []string{"Take", "Drop", "Double", "Burst", "Burst", "Cut", "Lose"}[r.IntN(7)], i: r.IntN(long+2) - 1}
	switch a.name {
	case "Burst":
		a.n, a.pattern = r.IntN(110)-5, r.Uint32()>>r.IntN(33)
	case "Cut":
		a.n = r.IntN(14) - 1
	}
	return a
}

// TestLongScripts: many networks beside each other, some copied from others.
func TestLongScripts(t *testing.T) {
	r := random()
	met := map[api.Errno]int{}
	nets, all := []*net.Net{net.New()}, []words{nil}
	for range 60000 {
		k := r.IntN(len(nets))
		var e api.Errno
		switch {
		case r.IntN(50) == 0:
			if len(nets) < 9 {
				nets, all = append(nets, nets[k].Copy()), append(all, all[k])
			} else {
				j := r.IntN(len(nets))
				nets[k], all[k] = nets[j].Copy(), all[j]
			}
		case r.IntN(3) == 0 && len(all[k]) < 30:
			all[k], e = checkSend(t, nets[k], all[k], somePacket(r))
		default:
			all[k], e = checkDo(t, nets[k], all[k], someAct(r, len(all[k])))
		}
		met[e]++
		if r.IntN(20) == 0 {
			for j, n := range nets {
				check(t, n, all[j], "acts at another one")
			}
		}
	}
	for _, e := range []api.Errno{api.OK, api.ErrNone, api.ErrArg, api.ErrNode} {
		if met[e] < 500 {
			t.Errorf("only %d came to %d: the test says little", met[e], e)
		}
	}
}

// TestLongDatagrams: of as many bytes as may be.
func TestLongDatagrams(t *testing.T) {
	data := noise(random(), api.MaxFrame)
	n, w := flying(t, string(data))
	for _, a := range []act{
		{name: "Double"}, {"Burst", 0, 8*api.MaxFrame - 1, 3}, {"Burst", 1, 8*api.MaxFrame - 32, math.MaxUint32}, {"Burst", 1, 8 * api.MaxFrame, math.MaxUint32}, {"Burst", 0, 4 * api.MaxFrame, 0x80000001},
		{"Cut", 0, api.MaxFrame, 0}, {"Cut", 0, api.MaxFrame - 1, 0}, {"Cut", 1, 65000, 0}, {name: "Double", i: 1}, {"Cut", 2, 1, 0}, {name: "Take", i: 1},
	} {
		w, _ = checkDo(t, n, w, a)
	}
}

// TestManyInFlight: they keep their order, however many are taken out ahead and between.
func TestManyInFlight(t *testing.T) {
	const many = 20000
	n := net.New()
	for i := range many {
		n.Send(packet(strconv.Itoa(i)))
	}
	for i := range many / 4 { // of each four in a row: the first is taken, the third dropped
		if p, e := n.Take(2 * i); e != api.OK || string(p.Data) != strconv.Itoa(4*i) {
			t.Fatalf("P12.3: Take(%d): %s, %d", 2*i, p.Data, e)
		}
		if e := n.Drop(2*i + 1); e != api.OK {
			t.Fatalf("P12.3: Drop(%d): %d", 2*i+1, e)
		}
	}
	var got []string
	for _, p := range n.Flight() {
		got = append(got, string(p.Data))
	}
	var want []string
	for i := range many {
		if i%4 == 1 || i%4 == 3 {
			want = append(want, strconv.Itoa(i))
		}
	}
	if !slices.Equal(got, want) || n.Len() != many/2 {
		t.Fatalf("P12.3: %d in flight, not the right ones", n.Len())
	}
}

func TestWhatWasDoubledAheadIsLeft(t *testing.T) {
	for i := range 2 { // what is done to the one, and to the other
		for _, a := range []act{{"Burst", i, 0, 1}, {"Cut", i, 1, 0}, {name: "Lose", i: i}, {name: "Drop", i: i}, {name: "Take", i: i}} {
			n, w := flying(t, "ab")
			w, _ = checkDo(t, n, w, act{name: "Double"})
			w, _ = checkDo(t, n, w, a)
			left := n.Flight()[(1-i)%n.Len()]
			if !bytes.Equal(left.Data, []byte("ab")) || left.Lost {
				t.Errorf("P12.3: %v of one changed the other: %v", a, left)
			}
			checkDo(t, n, w, act{name: "Double"})
		}
	}
}

func TestNil(t *testing.T) {
	var n *net.Net
	for _, p := range []api.Packet{{}, packet("a"), {From: client(1), To: server(0), Data: make([]byte, 66001)}} {
		if e := n.Send(p); e != api.OK {
			t.Errorf("P12.5: Send to nil: %d", e)
		}
	}
	for _, i := range []int{math.MinInt, -1, 0, 1, math.MaxInt} {
		for _, a := range allActs(i) {
			if taken, e := do(n, a); e != api.OK || taken != (one{}) {
				t.Errorf("P12.5: %v of nil: %v, %d", a, taken, e)
			}
		}
	}
	if n.Len() != 0 || n.Flight() != nil || n.Copy() != nil {
		t.Error("P12.5: a nil network has something")
	}
}

package store

import (
	"fmt"
	"math"
	"math/big"
	"testing"

	"sherd/api"
	"sherd/cluster"
)

// Inside is a store's cluster, for tests from outside.
func (s *Store) Inside() *cluster.Cluster { return s.cluster }

// Left is the numbers of the noise that are left.
func (s *Store) Left() []int { return s.noise }

// breaks has a store's noise panic at a datagram, counted from 0 on; those ahead of it have their fates.
func (s *Store) breaks(at int) {
	fate := s.fate
	s.fate = func(number, size int) (bool, []api.Event) {
		if at == 0 {
			panic("broken")
		}
		at--
		s.fate, fate = fate, s.fate
		stays, came := s.fate(number, size)
		s.fate, fate = fate, s.fate
		return stays, came
	}
}

func kinds(es []api.Event) string {
	text := ""
	for _, e := range es {
		text += fmt.Sprint(e.Kind, e.Put, " ")
	}
	return text
}

// TestBroken: an operation that is cut short by a panic inside, wherever it comes, is given up, and the next one is done as ever.
func TestBroken(t *testing.T) {
	for at := range 9 {
		for _, put := range []bool{true, false} {
			s, _ := Open(api.Config{N: 2, K: 1})
			if e := s.Put("k", []byte("old")); e != api.OK {
				t.Fatalf("Put is %d", int(e))
			}
			began := len(s.History())
			s.Noise(make([]int, 99))
			s.breaks(at)
			value, e := []byte(nil), api.OK
			if put {
				e = s.Put("k", []byte("new"))
			} else {
				value, e = s.Get("k")
			}
			if e != api.ErrGone || value != nil {
				t.Errorf("Ways: cut short at %d it is %q, %d", at, value, int(e))
			}
			if got, want := kinds(s.History()[began:]), fmt.Sprint(api.Invoke, put, " ", api.Cancel, put, " "); got != want {
				t.Errorf("Ways: cut short at %d the events are %q, want %q", at, got, want)
			}
			if _, _, _, _, _, e := s.cluster.Now(client); e != api.ErrIdle {
				t.Errorf("Ways: cut short at %d something is under way still", at)
			}
			s.Noise(nil)
			goesOn(t, s)
		}
	}
}

// goesOn looks whether a store does what is asked of it.
func goesOn(t *testing.T, s *Store) {
	t.Helper()
	if value, e := s.Get("k"); e != api.OK || string(value) != "old" && string(value) != "new" {
		t.Errorf("Ways: behind what was given up a Get is %q, %d", value, int(e))
	}
	if e := s.Put("k", []byte("next")); e != api.OK || s.Rounds() > 9 {
		t.Errorf("Ways: behind what was given up a Put is %d, in %d rounds", int(e), s.Rounds())
	}
	if value, e := s.Get("k"); e != api.OK || string(value) != "next" || s.Rounds() > 12 {
		t.Errorf("Ways: behind what was given up a Get is %q, %d, in %d rounds", value, int(e), s.Rounds())
	}
}

// TestRefusedStep: no call of a store leaves its client busy, so this can't be asked from outside: the step's error is told, and no round is done.
func TestRefusedStep(t *testing.T) {
	s, _ := Open(api.Config{N: 1, K: 1})
	s.Get("k")
	s.cluster.Do(api.Step{Kind: api.SGet, A: client, Key: "k"})
	before := s.cluster.State()
	if e := s.Put("k", nil); e != api.ErrBusy {
		t.Errorf("P28.2: Put is %d", int(e))
	}
	if value, e := s.Get("k"); value != nil || e != api.ErrBusy {
		t.Errorf("P28.3: Get is %q, %d", value, int(e))
	}
	if s.cluster.State() != before || s.Rounds() != 2 {
		t.Errorf("P28.2: a step that was refused is gone on with")
	}
}

// TestSwapped: what happens to a datagram is swapped just when the last number is taken, or none is given.
func TestSwapped(t *testing.T) {
	s, _ := Open(api.Config{N: 1, K: 1})
	held := func() bool {
		s.cluster.Do(api.Step{Kind: api.SGet, A: client, Key: "k"})
		was := len(s.cluster.Flight())
		stays, _ := s.fate(was-1, 9)
		s.cluster.Do(api.Step{Kind: api.SCancel, A: client})
		return stays && len(s.cluster.Flight()) == was
	}
	if held() {
		t.Errorf("P28.1: a new store has noise")
	}
	s.Noise([]int{4, -1, 9})
	for i, want := range []bool{true, true, true, false, false} {
		if got := held(); got != want {
			t.Errorf("Ways: datagram %d is held back: %v", i, got)
		}
	}
	s.Noise([]int{4, 4})
	s.Noise([]int{})
	if held() || s.noise != nil {
		t.Errorf("P28.5: what was left of an earlier noise goes on")
	}
}

// TestTurnedBit: which bit of a datagram is turned nobody outside can tell, for each one spoils it; and none is as short as some here.
func TestTurnedBit(t *testing.T) {
	for i, c := range []int{3, 8, 13, 38, 43, 48, 5*200 + 3, 5*400 + 3, -2, -7, -12, -5*300 + 3, math.MaxInt - 4, math.MinInt + 1, math.MinInt + 6} {
		s, _ := Open(api.Config{N: 1, K: 1})
		s.cluster.Do(api.Step{Kind: api.SGet, A: client, Key: "k"})
		if i%2 == 1 {
			s.cluster.Do(api.Step{Kind: api.SCut, B: 1 + i/4})
		}
		want := s.cluster.Flight()[0].Data
		whole, rest := new(big.Int).DivMod(big.NewInt(int64(c)), big.NewInt(5), new(big.Int))
		if rest.Int64() != 3 {
			t.Fatalf("the test is wrong: %d modulo 5 is %v", c, rest)
		}
		bit := int(whole.Mod(whole, big.NewInt(int64(8*len(want)))).Int64())
		want[bit/8] ^= 1 << (bit % 8)
		s.turn(0, len(want), c)
		if got := s.cluster.Flight()[0].Data; string(got) != string(want) {
			t.Errorf("P28.3: by %d the datagram is %x, want %x", c, got, want)
		}
	}
}

// TestNoBytes: no datagram of a store is without bytes; of one that is no bit is turned, and it is delivered.
func TestNoBytes(t *testing.T) {
	s, _ := Open(api.Config{N: 1, K: 1})
	s.cluster.Do(api.Step{Kind: api.SGet, A: client, Key: "k"})
	s.cluster.Do(api.Step{Kind: api.SCut, B: 0})
	s.Noise([]int{3, 8, -2})
	if stays, came := s.fate(0, 0); stays || len(came) > 0 || len(s.cluster.Flight()) > 0 {
		t.Errorf("P28.3: a datagram without bytes stays: %v, and brings %v", stays, came)
	}
	s.cluster.Do(api.Step{Kind: api.STick, A: client})
	s.fate(0, 0) // handed a wrong length, it must leave the bits alone
	if flight := s.cluster.Flight(); len(flight) != 1 || flight[0].From.Kind != api.NServer {
		t.Errorf("P28.3: a bit of no bytes was turned: %+v", flight)
	}
}

// TestDivision: by 5 and by numbers of bits, of all small numbers and of those at the ends.
func TestDivision(t *testing.T) {
	for i := range 4000 {
		for _, a := range []int{i - 2000, math.MinInt + i, math.MaxInt - i} {
			for _, m := range []int{5, 8, 104, 8 * api.MaxFrame} {
				whole, rest := new(big.Int).DivMod(big.NewInt(int64(a)), big.NewInt(int64(m)), new(big.Int))
				if int64(floor(a, m)) != whole.Int64() || int64(modulo(a, m)) != rest.Int64() {
					t.Fatalf("P28.3: %d by %d is %d and %d, want %v and %v", a, m, floor(a, m), modulo(a, m), whole, rest)
				}
			}
		}
	}
}

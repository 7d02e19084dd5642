package store_test

import (
	"bytes"
	"fmt"
	"strings"
	"testing"

	"sherd/api"
	"sherd/frame"
	"sherd/quorum"
	"sherd/store"
)

func made(t testing.TB, n, k, delta int) *store.Store {
	t.Helper()
	s, e := store.Open(api.Config{N: n, K: k, Delta: delta})
	if s == nil || e != api.OK {
		t.Fatalf("P28.1: Open of %d, %d, %d is %v, %d", n, k, delta, s, int(e))
	}
	return s
}

func put(t *testing.T, s *store.Store, key, value string, want api.Errno) {
	t.Helper()
	if e := s.Put(key, []byte(value)); e != want {
		t.Fatalf("P28.2: Put of %q is %d, want %d", key, int(e), int(want))
	}
}

func get(t *testing.T, s *store.Store, key, want string, status api.Errno) {
	t.Helper()
	value, e := s.Get(key)
	if e != status || string(value) != want {
		t.Fatalf("P28.3: Get of %q is %q, %d, want %q, %d", key, value, int(e), want, int(status))
	}
	if e != api.OK && value != nil {
		t.Fatalf("P3: Get of %q is %d, with a value", key, int(e))
	}
}

func rounds(t *testing.T, s *store.Store, want int) {
	t.Helper()
	if got := s.Rounds(); got != want {
		t.Fatalf("P28.6: Rounds is %d, want %d", got, want)
	}
}

func held(t *testing.T, s *store.Store, up, bytes int) {
	t.Helper()
	if s.Up() != up || s.Bytes() != bytes {
		t.Fatalf("P28.6: Up is %d, Bytes %d, want %d, %d", s.Up(), s.Bytes(), up, bytes)
	}
}

func status(t *testing.T, call string, got, want api.Errno) {
	t.Helper()
	if got != want {
		t.Fatalf("P28.4: %s is %d, want %d", call, int(got), int(want))
	}
}

func crash(t *testing.T, s *store.Store, server int, want api.Errno) {
	t.Helper()
	status(t, fmt.Sprint("Crash of ", server), s.Crash(server, nil), want)
}

func start(t *testing.T, s *store.Store, server int, want api.Errno) {
	t.Helper()
	status(t, fmt.Sprint("Start of ", server), s.Start(server), want)
}

func compact(t *testing.T, s *store.Store, server int, want api.Errno) {
	t.Helper()
	status(t, fmt.Sprint("Compact of ", server), s.Compact(server), want)
}

func TestExample1(t *testing.T) {
	s := made(t, 3, 2, 0)
	held(t, s, 3, 0)
	rounds(t, s, 0)
	if es := s.History(); len(es) != 0 {
		t.Errorf("P28.6: a new store's History is %+v", es)
	}
	get(t, s, "a", "", api.ErrAbsent)
	rounds(t, s, 2)
	put(t, s, "a", "xyz", api.OK)
	rounds(t, s, 6)
	held(t, s, 3, 12)
	get(t, s, "a", "xyz", api.OK)
	rounds(t, s, 4)
	held(t, s, 3, 12)
}

func TestExample2(t *testing.T) {
	s := made(t, 3, 2, 0)
	long := strings.Repeat("v", api.MaxValue+1)
	put(t, s, "", "x", api.ErrKey)
	put(t, s, long[:api.MaxKey+1], "x", api.ErrKey)
	put(t, s, "a", long, api.ErrValue)
	put(t, s, "", long, api.ErrKey)
	put(t, s, long, long, api.ErrKey)
	get(t, s, "", "", api.ErrKey)
	get(t, s, long[:api.MaxKey+1], "", api.ErrKey)
	rounds(t, s, 0)
	put(t, s, long[:api.MaxKey], long[:api.MaxValue], api.OK)
	get(t, s, long[:api.MaxKey], long[:api.MaxValue], api.OK)
	put(t, s, "\x00", "\xff\xfe", api.OK)
	get(t, s, "\x00", "\xff\xfe", api.OK)
	get(t, s, "\x00\x00", "", api.ErrAbsent)
}

func TestExample3(t *testing.T) {
	s := made(t, 3, 1, 0)
	crash(t, s, 0, api.OK)
	held(t, s, 2, 0)
	put(t, s, "a", "1", api.OK)
	held(t, s, 2, 10)
	crash(t, s, 1, api.OK)
	put(t, s, "a", "2", api.ErrDown)
	get(t, s, "a", "", api.ErrDown)
	rounds(t, s, 6)
	held(t, s, 1, 5)
	start(t, s, 0, api.OK)
	held(t, s, 2, 5)
	get(t, s, "a", "1", api.OK)
	start(t, s, 1, api.OK)
	get(t, s, "a", "1", api.OK)
}

func TestExample4(t *testing.T) {
	s := made(t, 3, 3, 0)
	crash(t, s, 2, api.OK)
	get(t, s, "a", "", api.ErrDown)
	crash(t, s, 2, api.ErrDown)
	crash(t, s, 3, api.ErrNode)
	start(t, s, 1, api.ErrUp)
	start(t, s, 3, api.ErrNode)
	crash(t, s, -1, api.ErrNode)
	start(t, s, -1, api.ErrNode)
	compact(t, s, 3, api.ErrNode)
	compact(t, s, -1, api.ErrNode)
	compact(t, s, 2, api.ErrDown)
	compact(t, s, 1, api.OK)
	held(t, s, 2, 0)
	start(t, s, 2, api.OK)
	start(t, s, 2, api.ErrUp)
	get(t, s, "a", "", api.ErrAbsent)
}

func TestExample5(t *testing.T) {
	s := made(t, 3, 2, 0)
	put(t, s, "a", "", api.OK)
	held(t, s, 3, 6)
	get(t, s, "a", "", api.OK)
	if e := s.Put("b", nil); e != api.OK {
		t.Errorf("P2: Put of no list is %d", int(e))
	}
	get(t, s, "b", "", api.OK)
}

func TestExample6(t *testing.T) {
	s := made(t, 3, 2, 0)
	s.Noise([]int{1, 1, 1})
	get(t, s, "a", "", api.ErrAbsent)
	rounds(t, s, 3)
	get(t, s, "a", "", api.ErrAbsent)
	rounds(t, s, 2)
}

func TestExample7(t *testing.T) {
	for _, c := range []api.Config{{}, {N: 2, K: 3}, {N: 1, K: 1, Delta: -1}, {N: 256, K: 1}, {N: 3}, {N: -1, K: -1}, {N: 1, K: 1, Delta: api.MaxDelta + 1}} {
		if s, e := store.Open(c); s != nil || e != api.ErrConfig {
			t.Errorf("P28.1: Open of %+v is %v, %d", c, s, int(e))
		}
	}
	for _, c := range []api.Config{{N: 1, K: 1}, {N: 255, K: 255}, {N: 255, K: 1, Delta: api.MaxDelta}} {
		made(t, c.N, c.K, c.Delta)
	}
}

func TestNil(t *testing.T) {
	var s *store.Store
	long := strings.Repeat("v", api.MaxValue+1)
	for _, key := range []string{"a", "", long} {
		put(t, s, key, "x", api.ErrState)
		put(t, s, key, long, api.ErrState)
		get(t, s, key, "", api.ErrState)
	}
	for _, server := range []int{0, -1, 999} {
		crash(t, s, server, api.ErrState)
		start(t, s, server, api.ErrState)
		compact(t, s, server, api.ErrState)
	}
	s.Noise(nil)
	s.Noise([]int{1, 2, 3})
	held(t, s, 0, 0)
	rounds(t, s, 0)
	if es := s.History(); es != nil {
		t.Errorf("P28.6: the History of none is %+v", es)
	}
}

// flight is what is in flight: each datagram's kind.
func flight(t *testing.T, s *store.Store) string {
	t.Helper()
	words := []string{"", "Ask", "Told", "Pre", "Kept", "Fin", "Done", "Read", "Gave"}
	var got []string
	for _, p := range s.Inside().Flight() {
		m, e := frame.Decode(p.Data)
		if e != api.OK {
			t.Fatalf("P28.3: what is spoilt stays in flight")
		}
		got = append(got, words[m.Kind])
	}
	return strings.Join(got, " ")
}

func flightIs(t *testing.T, s *store.Store, want string) {
	t.Helper()
	if got := flight(t, s); got != want {
		t.Fatalf("P28.3: in flight are %q, want %q", got, want)
	}
}

// TestFates: a Get of one server, where nothing is put, by noises that were gone through by hand.
func TestFates(t *testing.T) {
	for _, k := range []struct {
		noise  []int
		rounds int
		flight string
	}{
		{nil, 2, "Told"},
		{[]int{0}, 2, "Told"},
		{[]int{5}, 2, "Told"},
		{[]int{-5}, 2, "Told"},
		{[]int{1}, 3, "Told"},
		{[]int{-4}, 3, "Told"},
		{[]int{2}, 2, "Told Told"},
		{[]int{-3}, 2, "Told Told"},
		{[]int{3}, 3, "Told"},
		{[]int{-2}, 3, "Told"},
		{[]int{5*1000 + 3}, 3, "Told"},
		{[]int{-5*1000 + 3}, 3, "Told"},
		{[]int{4}, 3, "Told"},
		{[]int{-1}, 3, "Told"},
		{[]int{0, 0}, 2, "Told"},
		{[]int{0, 1}, 3, "Told"},             // the Told is lost; that of the second Ask comes in the third round
		{[]int{0, 2}, 2, "Told Told"},        // the copy of the Told, ahead of the answer to the second Ask
		{[]int{0, 3}, 3, "Told"},             // as if it were lost
		{[]int{0, 4}, 3, "Told"},             // the Told is held back, and comes in the third round
		{[]int{0, 4, 4}, 3, "Told Told"},     // so are the Ask and the next one
		{[]int{0, 4, 1}, 3, "Told"},          // what is held back stands ahead of what is lost
		{[]int{0, 4, 2}, 3, "Told Told"},     // and of what is doubled
		{[]int{0, 1, 4}, 4, "Told"},          // what was sent behind a lost one is held back
		{[]int{0, 0, 4}, 2, "Ask"},           // it has returned, and the round goes on to its end
		{[]int{0, 0, 2}, 2, "Ask Told"},      // the copy is in flight ahead of the answer
		{[]int{0, 2, 1}, 2, "Told"},          // of what is in flight since the round's beginning no more is left
		{[]int{0, 0, 0, 1}, 2, "Told"},       // a number is left
		{[]int{1, 1, 1, 1, 0}, 6, "Told"},    // as long as there are numbers
		{[]int{4, 4, 4, 4, 4, 4}, 5, "Told"}, // one, two, three are held back; then four are delivered
	} {
		s := made(t, 1, 1, 0)
		s.Noise(k.noise)
		get(t, s, "a", "", api.ErrAbsent)
		if s.Rounds() != k.rounds {
			t.Errorf("P28.3: by %v Rounds is %d, want %d", k.noise, s.Rounds(), k.rounds)
		}
		if got := flight(t, s); got != k.flight {
			t.Errorf("P28.3: by %v in flight are %q, want %q", k.noise, got, k.flight)
		}
	}
}

// TestNoiseIsKept: what one operation leaves of the noise is the next one's; what is refused takes none of it.
func TestNoiseIsKept(t *testing.T) {
	s := made(t, 1, 1, 0)
	s.Noise([]int{0, 0, 0, 1, 1})
	get(t, s, "a", "", api.ErrAbsent)
	rounds(t, s, 2)
	flightIs(t, s, "Told")
	get(t, s, "", "", api.ErrKey)
	put(t, s, "", "", api.ErrKey)
	put(t, s, "a", strings.Repeat("v", api.MaxValue+1), api.ErrValue)
	crash(t, s, 0, api.OK)
	get(t, s, "a", "", api.ErrDown)
	put(t, s, "a", "", api.ErrDown)
	start(t, s, 0, api.OK)
	rounds(t, s, 2)
	get(t, s, "a", "", api.ErrAbsent) // the late Told and the Ask are lost
	rounds(t, s, 3)
	get(t, s, "a", "", api.ErrAbsent)
	rounds(t, s, 2)
}

// TestNoiseGoes: an earlier one makes room.
func TestNoiseGoes(t *testing.T) {
	for _, k := range []struct {
		next   []int
		rounds int
	}{{nil, 2}, {[]int{}, 2}, {[]int{0}, 2}, {[]int{1}, 3}, {[]int{1, 1}, 4}} {
		s := made(t, 1, 1, 0)
		s.Noise([]int{1, 1, 1, 1, 1, 1, 1})
		s.Noise(k.next)
		get(t, s, "a", "", api.ErrAbsent)
		rounds(t, s, k.rounds)
		s.Noise([]int{0, 0, 0, 1, 1, 1, 1, 1, 1})
		get(t, s, "a", "", api.ErrAbsent)
		s.Noise(nil)
		get(t, s, "a", "", api.ErrAbsent)
		rounds(t, s, 2)
	}
}

// TestToThoseThatAreDown: in a fair round a datagram to a server that is down stays, in a noisy one it is delivered, and vanishes.
func TestToThoseThatAreDown(t *testing.T) {
	for _, noisy := range []bool{false, true} {
		s := made(t, 3, 1, 0)
		crash(t, s, 0, api.OK)
		if noisy {
			s.Noise(make([]int, 99))
		}
		put(t, s, "a", "x", api.OK)
		held(t, s, 2, 10)
		s.Noise(nil)
		start(t, s, 0, api.OK)
		held(t, s, 2+1, 10)
		get(t, s, "a", "x", api.OK)
		want := 15
		if noisy {
			want = 10
		}
		held(t, s, 3, want)
	}
}

// TestFromThoseThatAreDown: a noisy round delivers the answer of a server that is down by now, a fair one doesn't.
func TestFromThoseThatAreDown(t *testing.T) {
	for _, noisy := range []bool{false, true} {
		s := made(t, 3, 1, 0)
		get(t, s, "a", "", api.ErrAbsent)
		flightIs(t, s, "Told Told Told")
		crash(t, s, 2, api.OK)
		left := "Told Ask Ask Told Told"
		if noisy {
			s.Noise(make([]int, 3+3+3+3))
			left = "Told Told"
		}
		get(t, s, "a", "", api.ErrAbsent)
		rounds(t, s, 2)
		flightIs(t, s, left)
	}
}

// TestHistory: what was done, and nothing of what was refused.
func TestHistory(t *testing.T) {
	s := made(t, 3, 1, 0)
	get(t, s, "a", "", api.ErrAbsent)
	put(t, s, "", "1", api.ErrKey)
	put(t, s, "a", "1", api.OK)
	get(t, s, "", "", api.ErrKey)
	crash(t, s, 0, api.OK)
	crash(t, s, 1, api.OK)
	before := s.Inside().State()
	put(t, s, "a", "2", api.ErrDown)
	get(t, s, "a", "", api.ErrDown)
	put(t, s, "a", strings.Repeat("v", api.MaxValue+1), api.ErrValue)
	crash(t, s, 1, api.ErrDown)
	compact(t, s, 1, api.ErrDown)
	start(t, s, 2, api.ErrUp)
	if s.Inside().State() != before {
		t.Errorf("P28.2: what was refused did something")
	}
	start(t, s, 0, api.OK)
	get(t, s, "a", "1", api.OK)
	one := api.Tag{Count: 1, Client: 1}
	want := []api.Event{
		{Kind: api.Invoke, Client: 1, Op: 1, Key: "a"},
		{Kind: api.Return, Client: 1, Op: 1, Key: "a", Status: api.ErrAbsent},
		{Kind: api.Invoke, Client: 1, Op: 2, Put: true, Key: "a", Value: []byte("1")},
		{Kind: api.Return, Client: 1, Op: 2, Put: true, Key: "a", Tag: one},
		{Kind: api.Invoke, Client: 1, Op: 3, Key: "a"},
		{Kind: api.Return, Client: 1, Op: 3, Key: "a", Tag: one, Value: []byte("1")},
	}
	if got := s.History(); !sameEvents(got, want) {
		t.Errorf("P28.6: History is %+v, want %+v", got, want)
	}
}

func sameEvents(a, b []api.Event) bool {
	if len(a) != len(b) {
		return false
	}
	for i, e := range a {
		f := b[i]
		if !bytes.Equal(e.Value, f.Value) {
			return false
		}
		e.Value, f.Value = nil, nil
		if fmt.Sprint(e) != fmt.Sprint(f) {
			return false
		}
	}
	return true
}

// TestDown: as many as may be down are, and one more, of all small configs.
func TestDown(t *testing.T) {
	for n := 1; n <= 9; n++ {
		for k := 1; k <= n; k++ {
			s := made(t, n, k, 0)
			most, _ := quorum.Down(api.Config{N: n, K: k})
			for i := range most {
				crash(t, s, i, api.OK)
				put(t, s, "k", fmt.Sprint("value ", i), api.OK)
				get(t, s, "k", fmt.Sprint("value ", i), api.OK)
			}
			put(t, s, "k", "last", api.OK)
			crash(t, s, n-1, api.OK)
			put(t, s, "k", "none", api.ErrDown)
			get(t, s, "k", "", api.ErrDown)
			if s.Up() != n-most-1 {
				t.Errorf("P28.6: of %d, %d Up is %d", n, k, s.Up())
			}
			start(t, s, n-1, api.OK)
			get(t, s, "k", "last", api.OK)
			put(t, s, "k", "more", api.OK)
			get(t, s, "k", "more", api.OK)
		}
	}
}

// TestAllDown: all servers crash and start again; what was put lasts, and so it does when logs are made small.
func TestAllDown(t *testing.T) {
	s := made(t, 4, 2, 1)
	for i := range 30 {
		put(t, s, fmt.Sprint("key ", i%3), fmt.Sprint("value ", i), api.OK)
		for server := range 4 {
			if i%2 == 0 {
				compact(t, s, server, api.OK)
			}
			status(t, "Crash", s.Crash(server, []int{i, -i, 3}), api.OK)
		}
		held(t, s, 0, 0)
		for server := range 4 {
			start(t, s, server, api.OK)
		}
		for j := max(0, i-2); j <= i; j++ {
			get(t, s, fmt.Sprint("key ", j%3), fmt.Sprint("value ", j), api.OK)
		}
	}
}

// TestSmall: what Compact does is done.
func TestSmall(t *testing.T) {
	s := made(t, 1, 1, 0)
	for range 5 {
		put(t, s, "k", "value", api.OK)
	}
	size := func() int {
		slots, current, _ := s.Inside().Slots(0)
		return len(slots[current])
	}
	before := size()
	compact(t, s, 0, api.OK)
	if size() >= before/2 {
		t.Errorf("P28.4: a log of %d bytes was made small: it has %d", before, size())
	}
	get(t, s, "k", "value", api.OK)
}

// TestBytes: a value's fragments, of those that are up, with Delta and without.
func TestBytes(t *testing.T) {
	for _, k := range []struct {
		n, k, delta, size, want int
	}{
		{1, 1, 0, 0, 4}, {1, 1, 1, 10, 14 + 14}, {5, 3, 0, 0, 5 * 2}, {5, 3, 0, 2, 5 * 2}, {5, 3, 0, 3, 5 * 3},
		{5, 3, 2, 8, 3 * 5 * 4}, {255, 255, 0, 251, 255}, {255, 255, 0, 252, 510}, {255, 1, 0, 100, 255 * 104}, {3, 2, api.MaxDelta, 9, 4 * 3 * 7},
	} {
		s := made(t, k.n, k.k, k.delta)
		value := strings.Repeat("x", k.size)
		for range 4 {
			put(t, s, "k", value, api.OK)
		}
		held(t, s, k.n, k.want)
		get(t, s, "k", value, api.OK)
		held(t, s, k.n, k.want)
		crash(t, s, 0, api.OK)
		held(t, s, k.n-1, k.want/k.n*(k.n-1))
	}
}

// TestLongest: a value of the most bytes, at the most servers.
func TestLongest(t *testing.T) {
	key := strings.Repeat("\xff", api.MaxKey)
	value := make([]byte, api.MaxValue)
	for i := range value {
		value[i] = byte(i * i >> 3)
	}
	for _, c := range []api.Config{{N: 255, K: 1}, {N: 255, K: 85}, {N: 255, K: 255}, {N: 1, K: 1}} {
		s := made(t, c.N, c.K, c.Delta)
		s.Noise([]int{1, 2, 3, 4, 5, 6, 7, 8, 9})
		put(t, s, key, string(value), api.OK)
		get(t, s, key, string(value), api.OK)
	}
}

package sum_test

import (
	"bytes"
	"math"
	"math/bits"
	"math/rand/v2"
	"slices"
	"testing"

	"sherd/api"
	"sherd/sum"
)

func random() *rand.Rand { return rand.New(rand.NewPCG(6, 32)) }

func noise(r *rand.Rand, long int) []byte {
	all := make([]byte, long)
	for i := range all {
		all[i] = byte(r.IntN(256))
	}
	return all
}

// past: eight shifts by the words of chapter 6: a step of zeros.
func past(number uint32) uint32 {
	for range 8 {
		if number%2 == 1 {
			number = number/2 ^ 0xEDB88320
		} else {
			number /= 2
		}
	}
	return number
}

// byWords: the sum as the chapter tells it, without a table.
func byWords(text []byte) uint32 {
	number := uint32(0xffffffff)
	for _, b := range text {
		number = past(number ^ uint32(b))
	}
	return ^number
}

// tail: a sum as four bytes, the lowest first.
func tail(value uint32) []byte {
	return []byte{byte(value), byte(value >> 8), byte(value >> 16), byte(value >> 24)}
}

func behind(texts ...[]byte) []byte { return slices.Concat(texts...) }

// texts: all of no, one and two bytes (these every seventh), runs of one byte, and noise of many lengths.
func texts() [][]byte {
	r := random()
	all := [][]byte{nil, {}}
	for i := range 256 {
		all = append(all, []byte{byte(i)})
	}
	for i := 0; i < 65536; i += 7 {
		all = append(all, []byte{byte(i), byte(i >> 8)})
	}
	for long := range 70 {
		all = append(all, noise(r, long), make([]byte, long), bytes.Repeat([]byte{0xff}, long))
	}
	for _, long := range []int{255, 256, 257, 4095, 4096, 65536, 66001, 300000} {
		all = append(all, noise(r, long))
	}
	return all
}

func TestOfExamples(t *testing.T) {
	for _, c := range []struct {
		parts []string
		want  uint32
	}{
		{nil, 0}, {[]string{""}, 0}, {[]string{"", "", ""}, 0},
		{[]string{"123456789"}, 0xCBF43926}, {[]string{"1234", "", "56789"}, 0xCBF43926}, {[]string{"", "123456789", ""}, 0xCBF43926},
		{[]string{"\x00"}, 0xD202EF8D}, {[]string{"a"}, 0xE8B7BE43},
		{[]string{"The quick brown fox jumps over the lazy dog"}, 0x414FA339},
	} {
		parts := [][]byte{}
		for _, p := range c.parts {
			parts = append(parts, []byte(p))
		}
		if got := sum.Of(parts...); got != c.want {
			t.Errorf("M1: Of(%q) is %08X, want %08X", c.parts, got, c.want)
		}
	}
	if got := sum.Of(nil, []byte("a"), nil); got != 0xE8B7BE43 {
		t.Errorf("M1: Of(nil, a, nil) is %08X", got)
	}
}

func TestOfIsTheSumOfWords(t *testing.T) {
	for _, text := range texts() {
		if got, want := sum.Of(text), byWords(text); got != want {
			t.Fatalf("M1: Of of %d bytes is %08X, want %08X: % x", len(text), got, want, text[:min(len(text), 70)])
		}
	}
}

func TestOfWhereverItIsCut(t *testing.T) {
	r := random()
	text := noise(r, 40)
	want := byWords(text)
	for a := range len(text) + 1 {
		for b := a; b <= len(text); b++ {
			if got := sum.Of(text[:a], text[a:b], text[b:]); got != want {
				t.Fatalf("M1: cut at %d and %d: %08X, want %08X", a, b, got, want)
			}
		}
	}
	single := [][]byte{}
	for i := range text {
		single = append(single, text[i:i+1])
	}
	if got := sum.Of(single...); got != want {
		t.Errorf("M1: byte by byte: %08X, want %08X", got, want)
	}
}

func TestJoinExamples(t *testing.T) {
	for _, c := range []struct {
		a, b uint32
		n    int
		want uint32
		e    api.Errno
	}{
		{0, 5, 0, 5, api.OK}, {0, 5, 7, 5, api.OK}, {0, 0xffffffff, math.MaxInt, 0xffffffff, api.OK},
		{9, 0, 0, 9, api.OK}, {9, 3, 0, 10, api.OK}, {1, 0, 1, 0x77073096, api.OK}, {1, 0x77073096, 1, 0, api.OK},
		{1, 2, -1, 0, api.ErrArg}, {1, 2, math.MinInt, 0, api.ErrArg}, {0, 0, -5, 0, api.ErrArg},
		{sum.Of([]byte("1234")), sum.Of([]byte("56789")), 5, 0xCBF43926, api.OK},
	} {
		if got, e := sum.Join(c.a, c.b, c.n); got != c.want || e != c.e {
			t.Errorf("M2: Join(%x, %x, %d) is %08X, %d, want %08X, %d", c.a, c.b, c.n, got, e, c.want, c.e)
		}
	}
}

func TestJoinIsTheSumOfBoth(t *testing.T) {
	r := random()
	check := func(x []byte, y []byte) {
		t.Helper()
		got, e := sum.Join(sum.Of(x), sum.Of(y), len(y))
		if want := byWords(behind(x, y)); got != want || e != api.OK {
			t.Fatalf("M2: Join of %d and %d bytes is %08X, %d, want %08X", len(x), len(y), got, e, want)
		}
	}
	for a := range 40 {
		for b := range 40 {
			check(noise(r, a), noise(r, b))
		}
	}
	for _, a := range []int{0, 1, 1000} {
		for _, b := range []int{0, 127, 128, 255, 256, 257, 65535, 65536, 65537, 100003} {
			check(noise(r, a), noise(r, b))
		}
	}
}

func TestJoinIsStepsOfZeros(t *testing.T) {
	r := random()
	numbers := []uint32{0, 0xffffffff, 0xEDB88320}
	for i := range 32 {
		numbers = append(numbers, 1<<i, r.Uint32())
	}
	for _, a := range numbers {
		b, want := r.Uint32(), a
		for n := range 1000 {
			if got, e := sum.Join(a, b, n); got != want^b || e != api.OK {
				t.Fatalf("M2: Join(%x, %x, %d) is %08X, %d, want %08X", a, b, n, got, e, want^b)
			}
			want = past(want)
		}
	}
}

// maps is a map of numbers of 32 bits that keeps exclusive or, told by what it makes of each single bit.
type maps [32]uint32

func (m maps) of(number uint32) uint32 {
	all := uint32(0)
	for i := range 32 {
		if number>>i&1 == 1 {
			all ^= m[i]
		}
	}
	return all
}

// twice: the map done two times.
func (m maps) twice() maps {
	two := maps{}
	for i := range two {
		two[i] = m.of(m[i])
	}
	return two
}

// TestJoinOfManySteps holds n beyond what can be gone through one by one against the step's map, squared for each of n's digits.
func TestJoinOfManySteps(t *testing.T) {
	r := random()
	powers := []maps{{}}
	for i := range 32 {
		powers[0][i] = past(1 << i)
	}
	for len(powers) < 63 {
		powers = append(powers, powers[len(powers)-1].twice())
	}
	check := func(a uint32, b uint32, n int) {
		t.Helper()
		want := a
		for d, power := range powers {
			if n>>d&1 == 1 {
				want = power.of(want)
			}
		}
		if got, e := sum.Join(a, b, n); got != want^b || e != api.OK {
			t.Fatalf("M2: Join(%x, %x, %d) is %08X, %d, want %08X", a, b, n, got, e, want^b)
		}
	}
	for d := range 63 {
		for _, n := range []int{1 << d, 1<<d - 1, 1<<d + 1} {
			check(r.Uint32(), r.Uint32(), n)
		}
	}
	check(1, 0, math.MaxInt)
	for range 300 {
		check(r.Uint32(), r.Uint32(), int(r.Uint64()>>1))
	}
	// The steps come round behind 2^32 - 1 of them.
	for _, n := range []int{1<<32 - 1, 2 * (1<<32 - 1)} {
		if got, e := sum.Join(7, 0, n); got != 7 || e != api.OK {
			t.Errorf("M2: Join(7, 0, %d) is %08X, %d", n, got, e)
		}
	}
}

func TestTurnExamples(t *testing.T) {
	for _, c := range []struct {
		data    string
		bit     int
		pattern uint32
		want    string
		e       api.Errno
	}{
		{"\x00\x00", 0, 1, "\x01\x00", api.OK}, {"\x00\x00", 7, 3, "\x80\x01", api.OK}, {"\xff", 4, 0xffffffff, "\x0f", api.OK},
		{"\x00", 8, 1, "\x00", api.OK}, {"\x00", 7, 1, "\x80", api.OK}, {"\x00", 7, 2, "\x00", api.OK},
		{"\x00", math.MaxInt, 0xffffffff, "\x00", api.OK}, {"\x00", math.MaxInt - 30, 0xffffffff, "\x00", api.OK},
		{"\x00\x00", 1 << 32, 0xffffffff, "\x00\x00", api.OK}, {"\x00\x00", 1 << 35, 0xffffffff, "\x00\x00", api.OK}, {"\x00\x00", 1 << 62, 0xffffffff, "\x00\x00", api.OK},
		{"", 0, 1, "", api.OK}, {"", math.MaxInt, 0xffffffff, "", api.OK}, {"", 5, 0, "", api.OK},
		{"abc", 3, 0, "abc", api.OK}, {"\x00\x00\x00\x00\x00", 4, 0xffffffff, "\xf0\xff\xff\xff\x0f", api.OK}, {"\x00\x00\x00\x00\x00", 3, 0x80000000, "\x00\x00\x00\x00\x04", api.OK},
		{"\x00", -1, 1, "", api.ErrArg}, {"\x00", -1, 0, "", api.ErrArg}, {"", math.MinInt, 1, "", api.ErrArg}, {"abc", -32, 0xffffffff, "", api.ErrArg},
	} {
		got, e := sum.Turn([]byte(c.data), c.bit, c.pattern)
		if string(got) != c.want || e != c.e || len(c.want) == 0 && len(got) != 0 {
			t.Errorf("M3: Turn(%x, %d, %x) is %x, %d, want %x, %d", c.data, c.bit, c.pattern, got, e, c.want, c.e)
		}
	}
	if got, e := sum.Turn(nil, 0, 1); len(got) != 0 || e != api.OK {
		t.Errorf("M3: Turn(nil, 0, 1) is %x, %d", got, e)
	}
}

// TestTurnBitByBit holds what was turned against each bit of the text.
func TestTurnBitByBit(t *testing.T) {
	r := random()
	patterns := []uint32{0, 1, 0x80000000, 0xffffffff, 0x80000001}
	for range 20 {
		patterns = append(patterns, r.Uint32())
	}
	for long := range 9 {
		data := noise(r, long)
		for bit := range 8*long + 34 {
			for _, pattern := range patterns {
				got, e := sum.Turn(data, bit, pattern)
				if e != api.OK || len(got) != long {
					t.Fatalf("M3: Turn(%x, %d, %x) is %x, %d", data, bit, pattern, got, e)
				}
				for b := range 8 * long {
					was, is := data[b/8]>>(b%8)&1, got[b/8]>>(b%8)&1
					turned := b >= bit && b < bit+32 && pattern>>(b-bit)&1 == 1
					if (was != is) != turned {
						t.Fatalf("M3: Turn(%x, %d, %x) is %x: bit %d", data, bit, pattern, got, b)
					}
				}
			}
		}
	}
}

// TestNoBurstKeepsTheSum: what a burst does to the sum is the exclusive or of what each of its bits does (which TestBurstsAdd looks at), so no burst from bit b on does nothing just if the 32 bits' changes are independent: all 2^32 - 1 patterns at once.
func TestNoBurstKeepsTheSum(t *testing.T) {
	r := random()
	for _, long := range []int{1, 3, 4, 5, 8, 30, 300} {
		data := noise(r, long)
		before := sum.Of(data)
		for bit := range 8 * long {
			changes := []uint32{}
			for i := range min(32, 8*long-bit) {
				turned, _ := sum.Turn(data, bit, 1<<i)
				changes = append(changes, sum.Of(turned)^before)
			}
			if got := rank(changes); got != len(changes) {
				t.Fatalf("M3: %d bytes, bursts from bit %d on: %d of %d bits' changes are independent", long, bit, got, len(changes))
			}
		}
	}
}

// rank: how many of the numbers no exclusive or of others makes.
func rank(numbers []uint32) int {
	leads := [32]uint32{}
	count := 0
	for _, number := range numbers {
		for number != 0 {
			top := bits.Len32(number) - 1
			if leads[top] == 0 {
				leads[top] = number
				count++
				break
			}
			number ^= leads[top]
		}
	}
	return count
}

func TestBurstsAdd(t *testing.T) {
	r := random()
	for range 2000 {
		data := noise(r, 1+r.IntN(40))
		bit, pattern := r.IntN(8*len(data)), r.Uint32()
		want := uint32(0)
		for i := range 32 {
			one, _ := sum.Turn(data, bit, pattern&(1<<i))
			want ^= sum.Of(one) ^ sum.Of(data)
		}
		all, _ := sum.Turn(data, bit, pattern)
		if got := sum.Of(all) ^ sum.Of(data); got != want {
			t.Fatalf("M3: Turn(%x, %d, %x) changes the sum by %08X, its bits by %08X", data, bit, pattern, got, want)
		}
	}
}

// TestBurstsAreSeen: texts with their sums behind, all bursts of up to 12 bits and many greater ones, the sum's own bytes among what is turned.
func TestBurstsAreSeen(t *testing.T) {
	r := random()
	check := func(whole []byte, bit int, pattern uint32) {
		t.Helper()
		turned, e := sum.Turn(whole, bit, pattern)
		if e != api.OK || bytes.Equal(turned, whole) {
			t.Fatalf("M3: Turn(%x, %d, %x) turns nothing, %d", whole, bit, pattern, e)
		}
		end := len(turned) - 4
		if bytes.Equal(turned[end:], tail(sum.Of(turned[:end]))) {
			t.Fatalf("M3: %x with the pattern %x from bit %d on has its own sum behind it", whole, pattern, bit)
		}
		if sum.Of(turned) == sum.Of(whole) {
			t.Fatalf("M3: %x with the pattern %x from bit %d on has the same sum", whole, pattern, bit)
		}
	}
	for _, long := range []int{0, 1, 2, 9} {
		text := noise(r, long)
		whole := behind(text, tail(sum.Of(text)))
		for bit := range 8 * len(whole) {
			for pattern := uint32(1); pattern < 4096; pattern += 2 {
				check(whole, bit, pattern)
			}
			for range 500 {
				check(whole, bit, r.Uint32()|1)
			}
		}
	}
	text := noise(r, 66000)
	whole := behind(text, tail(sum.Of(text)))
	for _, bit := range []int{0, 1, 12345, 8*len(text) - 31, 8*len(text) - 1, 8 * len(text), 8*len(whole) - 32, 8*len(whole) - 1} {
		check(whole, bit, 0xffffffff)
		check(whole, bit, 0x80000001)
	}
}

func TestSumBehindItsText(t *testing.T) {
	for _, text := range texts() {
		if got := sum.Of(text, tail(sum.Of(text))); got != 0x2144DF1C {
			t.Fatalf("M4: %d bytes and their sum: %08X: % x", len(text), got, text[:min(len(text), 70)])
		}
	}
}

func TestSumInAnyPieces(t *testing.T) {
	r := random()
	if s := sum.New(); s.Value() != 0 || s.Len() != 0 {
		t.Errorf("M5: a new one is %08X of %d", s.Value(), s.Len())
	}
	for range 300 {
		text := noise(r, r.IntN(200))
		s, at := sum.New(), 0
		for at < len(text) {
			piece := r.IntN(len(text) - at + 1)
			s.Write(text[at : at+piece])
			at += piece
			if s.Value() != byWords(text[:at]) || s.Len() != at {
				t.Fatalf("M5: behind %d bytes: %08X of %d, want %08X", at, s.Value(), s.Len(), byWords(text[:at]))
			}
			if s.Value() != s.Value() || s.Len() != s.Len() {
				t.Fatalf("M5: asked twice it answers otherwise")
			}
		}
		s.Write(nil)
		s.Write([]byte{})
		if s.Value() != byWords(text) || s.Len() != len(text) {
			t.Fatalf("M5: no bytes change it: %08X of %d, want %08X of %d", s.Value(), s.Len(), byWords(text), len(text))
		}
	}
}

func TestCopiesPart(t *testing.T) {
	s := sum.New()
	s.Write([]byte("12"))
	c := s.Copy()
	s.Write([]byte("3456789"))
	if s.Value() != 0xCBF43926 || s.Len() != 9 {
		t.Errorf("M5: the first one is %08X of %d", s.Value(), s.Len())
	}
	if c.Value() != byWords([]byte("12")) || c.Len() != 2 {
		t.Errorf("M5: the copy is %08X of %d", c.Value(), c.Len())
	}
	c.Write([]byte("xyz"))
	if s.Value() != 0xCBF43926 || s.Len() != 9 || c.Value() != byWords([]byte("12xyz")) || c.Len() != 5 {
		t.Errorf("M5: the first one is %08X of %d, the copy %08X of %d", s.Value(), s.Len(), c.Value(), c.Len())
	}
	if e := sum.New().Copy(); e == nil || e.Value() != 0 || e.Len() != 0 {
		t.Errorf("M5: a copy of a new one: %v", e)
	}
}

func TestTwoSumsAreTwo(t *testing.T) {
	a, b := sum.New(), sum.New()
	a.Write([]byte("a"))
	if b.Value() != 0 || b.Len() != 0 {
		t.Errorf("P5: a second one is %08X of %d", b.Value(), b.Len())
	}
}

func TestNilSum(t *testing.T) {
	var s *sum.Sum
	s.Write([]byte("a"))
	if s.Value() != 0 || s.Len() != 0 || s.Copy() != nil {
		t.Errorf("P1: a nil one is %08X of %d, its copy %v", s.Value(), s.Len(), s.Copy())
	}
}

// TestMemory: what is handed in stays as it is, the spare room behind it too, and what is handed out is the caller's own.
func TestMemory(t *testing.T) {
	room := []byte("abcdefgh")
	in := room[:4]
	sum.Of(in, in)
	s := sum.New()
	s.Write(in)
	for _, pattern := range []uint32{0, 1, 0xffffffff} {
		got, _ := sum.Turn(in, 0, pattern)
		again, _ := sum.Turn(in, 0, pattern)
		for i := range got {
			got[i] = 'x'
		}
		_ = append(got, 'y')
		if string(room) != "abcdefgh" {
			t.Fatalf("P2: Turn with %x shares memory with its data: %q", pattern, room)
		}
		if want := tail(0x64636261 ^ pattern); !bytes.Equal(again, want) {
			t.Fatalf("P2: two answers of Turn share memory: %x, want %x", again, want)
		}
	}
	in[0] = 'z'
	if s.Value() != byWords([]byte("abcd")) {
		t.Errorf("P2: a Sum keeps what was written: %08X", s.Value())
	}
}

package stripe_test

import (
	"bytes"
	"math"
	"math/rand/v2"
	"slices"
	"testing"

	"sherd/api"
	"sherd/code"
	"sherd/mend"
	"sherd/stripe"
)

func made(t *testing.T, n int, k int) *code.Code {
	t.Helper()
	c, e := code.New(n, k)
	if e != api.OK {
		t.Fatalf("code.New(%d, %d): %d", n, k, e)
	}
	return c
}

func random() *rand.Rand { return rand.New(rand.NewPCG(5, 131)) }

// noise: so many bytes, none of them 0, so that no padding is taken for a value's end.
func noise(r *rand.Rand, long int) []byte {
	all := make([]byte, long)
	for i := range all {
		all[i] = byte(1 + r.IntN(255))
	}
	return all
}

func part(index int, data string) api.Part { return api.Part{Index: index, Data: []byte(data)} }

func sameRows(a [][]byte, b [][]byte) bool { return slices.EqualFunc(a, b, bytes.Equal) }

// leastSize: by its words: the least whole number that is at least (length + 4) / k.
func leastSize(length int, k int) int {
	size := 0
	for size*k < length+4 {
		size++
	}
	return size
}

// dataOf: the rows of data of a value, byte by byte as chapter 5 tells them.
func dataOf(value []byte, k int) [][]byte {
	size := leastSize(len(value), k)
	at := func(place int) byte {
		switch {
		case place < 4:
			return [4]byte{byte(len(value)), byte(len(value) / 256), byte(len(value) / 65536), 0}[place]
		case place < 4+len(value):
			return value[place-4]
		}
		return 0
	}
	rows := make([][]byte, k)
	for j := range rows {
		for place := j * size; place < j*size+size; place++ {
			rows[j] = append(rows[j], at(place))
		}
	}
	return rows
}

// fragments: those of a value, each with memory of its own.
func fragments(t *testing.T, c *code.Code, value []byte) []api.Part {
	t.Helper()
	return encoded(t, c, dataOf(value, c.K()))
}

// encoded: all rows of the data as parts.
func encoded(t *testing.T, c *code.Code, data [][]byte) []api.Part {
	t.Helper()
	rows, e := c.Encode(data)
	if e != api.OK {
		t.Fatalf("Encode: %d", e)
	}
	var parts []api.Part
	for i, row := range rows {
		parts = append(parts, api.Part{Index: i, Data: row})
	}
	return parts
}

// chosen: so many of the parts, in any order.
func chosen(r *rand.Rand, parts []api.Part, m int) []api.Part {
	var some []api.Part
	for _, i := range r.Perm(len(parts))[:m] {
		some = append(some, api.Part{Index: parts[i].Index, Data: bytes.Clone(parts[i].Data)})
	}
	return some
}

func TestSizeIsTheLeastThatHoldsAll(t *testing.T) {
	lengths := []int{65535, 65536, 65534, 65533, 32768, 4096}
	for length := range 1200 {
		lengths = append(lengths, length)
	}
	for k := 1; k <= 255; k++ {
		for _, length := range lengths {
			size, e := stripe.Size(length, k)
			if e != api.OK || size*k < length+4 || (size-1)*k >= length+4 {
				t.Fatalf("P5.1: Size(%d, %d): %d, %d", length, k, size, e)
			}
		}
	}
}

func TestSizeOfTheExamples(t *testing.T) {
	for _, x := range []struct{ length, k, size int }{
		{0, 1, 4}, {0, 2, 2}, {0, 3, 2}, {0, 4, 1}, {0, 255, 1}, {1, 4, 2}, {251, 255, 1}, {252, 255, 2}, {65536, 1, 65540}, {5, 2, 5}, {5, 1, 9}, {5, 255, 1},
	} {
		if size, e := stripe.Size(x.length, x.k); size != x.size || e != api.OK {
			t.Errorf("P5.1: Size(%d, %d): %d, %d, want %d", x.length, x.k, size, e, x.size)
		}
	}
}

func TestSizeRefuses(t *testing.T) {
	for _, x := range []struct {
		length, k int
		e         api.Errno
	}{
		{-1, 0, api.ErrArg}, {-1, 1, api.ErrArg}, {0, 0, api.ErrArg}, {0, -1, api.ErrArg}, {0, 256, api.ErrArg}, {10, math.MaxInt, api.ErrArg}, {10, math.MinInt, api.ErrArg},
		{math.MinInt, 1, api.ErrArg}, {math.MinInt, math.MinInt, api.ErrArg}, {65537, 0, api.ErrArg}, {65537, 256, api.ErrArg}, {math.MaxInt, -1, api.ErrArg},
		{65537, 1, api.ErrValue}, {65537, 255, api.ErrValue}, {math.MaxInt, 1, api.ErrValue}, {math.MaxInt, 255, api.ErrValue},
	} {
		if size, e := stripe.Size(x.length, x.k); size != 0 || e != x.e {
			t.Errorf("P5.1: Size(%d, %d): %d, %d, want %d", x.length, x.k, size, e, x.e)
		}
	}
}

func TestSplitOfTheExamples(t *testing.T) {
	got, e := stripe.Split(made(t, 3, 2), []byte("hi!"))
	third := []byte{5 ^ 0xd0, 0xd2, 0x42, 0} // 3 times the one plus 2 times the other: the code's third row
	if want := [][]byte{{3, 0, 0, 0}, []byte("hi!\x00"), third}; e != api.OK || !sameRows(got, want) {
		t.Errorf("P5.2: example 2: %x, %d, want %x", got, e, want)
	}
	got, e = stripe.Split(made(t, 6, 1), nil)
	if zero := make([]byte, 4); e != api.OK || !sameRows(got, [][]byte{zero, zero, zero, zero, zero, zero}) {
		t.Errorf("P5.2: example 4: %x, %d", got, e)
	}
	got, e = stripe.Split(made(t, 255, 255), []byte("hello"))
	if e != api.OK || len(got) != 255 || string(bytes.Join(got, nil)) != "\x05\x00\x00\x00hello"+string(make([]byte, 246)) {
		t.Errorf("P5.2: K 255: %x, %d", got, e)
	}
}

func TestSplitAndCutAreTheCodesRowsOfTheStripe(t *testing.T) {
	r := random()
	for _, x := range [][2]int{{1, 1}, {3, 1}, {2, 2}, {5, 3}, {7, 4}, {9, 5}, {12, 11}, {40, 17}, {255, 3}, {255, 128}, {255, 255}} {
		c := made(t, x[0], x[1])
		for _, long := range []int{0, 1, 2, 3, 4, 5, 6, 7, 8, 13, 250, 251, 252, 255, 256, 257, 511, 3000} {
			value := noise(r, long)
			want := fragments(t, c, value)
			got, e := stripe.Split(c, value)
			if e != api.OK || len(got) != len(want) {
				t.Fatalf("P5.2: N %d, K %d, %d bytes: %d fragments, %d", x[0], x[1], long, len(got), e)
			}
			for i := range want {
				one, e := stripe.Cut(c, value, i)
				if !bytes.Equal(got[i], want[i].Data) || !bytes.Equal(one, want[i].Data) || e != api.OK {
					t.Fatalf("P5.2: N %d, K %d, %d bytes, fragment %d: %x, and alone %x, %d, want %x", x[0], x[1], long, i, got[i], one, e, want[i].Data)
				}
			}
		}
	}
}

func TestTheLongestValueIsSplitAndJoined(t *testing.T) {
	r := random()
	for _, x := range [][2]int{{3, 1}, {4, 2}, {5, 3}, {8, 7}, {255, 254}, {255, 255}} {
		c := made(t, x[0], x[1])
		for _, long := range []int{65535, 65536} {
			value := noise(r, long)
			got, e := stripe.Split(c, value)
			want := fragments(t, c, value)
			for i := range want {
				if e != api.OK || !bytes.Equal(got[i], want[i].Data) {
					t.Fatalf("P5.2: N %d, K %d, %d bytes, fragment %d: %d", x[0], x[1], long, i, e)
				}
			}
			if back, e := stripe.Join(c, chosen(r, want, x[1])); e != api.OK || !bytes.Equal(back, value) {
				t.Errorf("P5.6: N %d, K %d, %d bytes: %d bytes back, %d", x[0], x[1], long, len(back), e)
			}
		}
	}
}

func TestSplitAndCutRefuse(t *testing.T) {
	c := made(t, 3, 2)
	long := make([]byte, 65537)
	for _, x := range []struct {
		c     *code.Code
		value []byte
		e     api.Errno
	}{{nil, nil, api.ErrArg}, {nil, long, api.ErrArg}, {c, long, api.ErrValue}, {c, make([]byte, 1<<20), api.ErrValue}} {
		if got, e := stripe.Split(x.c, x.value); got != nil || e != x.e {
			t.Errorf("P5.2: Split of %d bytes: %d fragments, %d, want %d", len(x.value), len(got), e, x.e)
		}
		for _, i := range []int{0, 2, 3, -1, math.MaxInt, math.MinInt} {
			if got, e := stripe.Cut(x.c, x.value, i); got != nil || e != x.e {
				t.Errorf("P5.2: Cut of %d bytes, %d: %x, %d, want %d", len(x.value), i, got, e, x.e)
			}
		}
	}
	for _, i := range []int{-1, 3, 4, 255, 256, math.MaxInt, math.MinInt} {
		for _, value := range [][]byte{nil, []byte("hi!"), make([]byte, 65536)} {
			if got, e := stripe.Cut(c, value, i); got != nil || e != api.ErrIndex {
				t.Errorf("P5.2: Cut of %d bytes, %d: %x, %d, want ErrIndex", len(value), i, got, e)
			}
		}
	}
}

// joined holds a Join, and a Mend of the same parts, against what is asked of both. (So the parts agree, or are wrong beyond mending.)
func joined(t *testing.T, name string, c *code.Code, parts []api.Part, value string, e api.Errno) {
	t.Helper()
	got, err := stripe.Join(c, parts)
	if string(got) != value || err != e {
		t.Errorf("P5.3: %s: %.200q, %d, want %.200q, %d", name, got, err, value, e)
	}
	got, wrong, err := stripe.Mend(c, parts)
	if string(got) != value || len(wrong) != 0 || err != e {
		t.Errorf("P5.4: %s: %.200q, %v, %d, want %.200q, %d", name, got, wrong, err, value, e)
	}
}

func TestJoinOfTheExamples(t *testing.T) {
	c := made(t, 3, 2)
	first, second := part(0, "\x03\x00\x00\x00"), part(1, "hi!\x00")
	joined(t, "both", c, []api.Part{first, second}, "hi!", api.OK)
	joined(t, "both, turned round", c, []api.Part{second, first}, "hi!", api.OK)
	joined(t, "one alone", c, []api.Part{second}, "", api.ErrFew)
	joined(t, "a byte behind", c, []api.Part{first, part(1, "hi!\x01")}, "", api.ErrPad)
	joined(t, "five bytes", c, []api.Part{part(0, "\x05\x00\x00\x00"), second}, "", api.ErrLength)
	joined(t, "four bytes", c, []api.Part{part(0, "\x04\x00\x00\x00"), second}, "hi!\x00", api.OK)
	joined(t, "one byte each", c, []api.Part{part(0, "\x00"), part(1, "\x00")}, "", api.ErrSize)
	joined(t, "K 1", made(t, 4, 1), []api.Part{part(3, "\x00\x00\x00\x00")}, "", api.OK)
}

func TestJoinRefusesWhatTheCodeRefuses(t *testing.T) {
	c := made(t, 4, 2)
	for _, x := range []struct {
		name  string
		parts []api.Part
		e     api.Errno
	}{
		{"no parts", nil, api.ErrFew},
		{"an index below", []api.Part{part(-1, "a"), part(-1, "bc")}, api.ErrIndex},
		{"an index above", []api.Part{part(0, "a"), part(0, "bc"), part(4, "")}, api.ErrIndex},
		{"the least index", []api.Part{part(math.MinInt, "abcd"), part(1, "abcd")}, api.ErrIndex},
		{"one twice", []api.Part{part(1, "a"), part(1, "bc")}, api.ErrTwice},
		{"unlike lengths", []api.Part{part(1, "a"), part(2, "bc")}, api.ErrSize},
		{"one, of no size", []api.Part{part(1, "a")}, api.ErrFew},
		{"one, too long", []api.Part{part(1, string(make([]byte, 70000)))}, api.ErrFew},
		{"no size, and they don't agree", []api.Part{part(0, "a"), part(1, "a"), part(2, "b")}, api.ErrWrong},
		{"no length, and they don't agree", []api.Part{part(0, "\x03\x00\x00\x70"), part(1, "hi!!"), part(3, "none")}, api.ErrWrong},
		{"too long, and they don't agree", []api.Part{part(0, string(make([]byte, 40000))), part(1, string(make([]byte, 40000))), part(2, string(make([]byte, 39999))+"b")}, api.ErrWrong},
	} {
		joined(t, x.name, c, x.parts, "", x.e)
	}
}

func TestJoinWithoutACode(t *testing.T) {
	for _, parts := range [][]api.Part{nil, {part(0, "\x00\x00\x00\x00")}, {part(-1, ""), part(-1, "a")}} {
		joined(t, "no code", nil, parts, "", api.ErrArg)
	}
}

func TestJoinTakesJustTheSizesOfFragments(t *testing.T) {
	for _, k := range []int{1, 2, 3, 4, 5, 7, 254, 255} {
		c := made(t, k, k)
		least, most := leastSize(0, k), leastSize(65536, k)
		for _, size := range []int{0, 1, 2, 3, 4, 5, most - 1, most, most + 1, most + 7, 2*most + 1} {
			length := min(65536, max(0, size*k-4))
			data := make([][]byte, k)
			for j := range data {
				data[j] = make([]byte, size)
			}
			if size >= least && size <= most {
				data = dataOf(make([]byte, length), k)
				joined(t, "a size", c, encoded(t, c, data), string(make([]byte, length)), api.OK)
				continue
			}
			joined(t, "no size", c, encoded(t, c, data), "", api.ErrSize)
		}
	}
}

// told: the first four bytes of a stripe of this code, put in their rows.
func told(data [][]byte, length uint32) {
	size := len(data[0])
	for i := range 4 {
		data[i/size][i%size] = byte(length >> (8 * i))
	}
}

func TestJoinTakesJustTheLengthsOfItsSize(t *testing.T) {
	for _, k := range []int{1, 2, 3, 4, 5, 8, 255} {
		c := made(t, k, k)
		for _, size := range []int{leastSize(0, k), 4, 7, leastSize(65536, k)} {
			data := make([][]byte, k)
			for j := range data {
				data[j] = make([]byte, size)
			}
			lengths := []uint32{0, 1, 255, 256, 65535, 65536, 65537, 65538, 65790, 65791, 1 << 17, 1 << 24, 1<<31 - 1, 1 << 31, 1<<31 + 1, 1<<32 - 4, 1<<32 - 1}
			for off := -k - 5; off <= 1; off++ {
				if length := size*k + off; length >= 0 {
					lengths = append(lengths, uint32(length))
				}
			}
			for _, length := range lengths {
				told(data, length)
				if length <= 65536 && leastSize(int(length), k) == size {
					joined(t, "a length", c, encoded(t, c, data), string(make([]byte, length)), api.OK)
				} else {
					joined(t, "no length", c, encoded(t, c, data), "", api.ErrLength)
				}
			}
		}
	}
}

func TestJoinRefusesEveryByteBehindTheValue(t *testing.T) {
	r := random()
	for _, k := range []int{2, 3, 5, 9, 255} {
		c := made(t, min(k+3, 255), k)
		for _, long := range []int{0, 1, 2, k, 2*k - 1, 2*k - 4, 65536} {
			if long < 0 {
				continue
			}
			value := noise(r, long)
			size := leastSize(long, k)
			for place := long + 4; place < size*k; place++ {
				if long > 1000 && place > long+14 {
					break
				}
				data := dataOf(value, k)
				data[place/size][place%size] = byte(1 << r.IntN(8))
				joined(t, "a byte behind", c, chosen(r, encoded(t, c, data), k), "", api.ErrPad)
			}
		}
	}
}

func TestALengthThatDoesNotFitIsToldAheadOfThePadding(t *testing.T) {
	c := made(t, 5, 3)
	joined(t, "no length, no zeros", c, []api.Part{part(0, "\xff\xff\xff"), part(1, "\xffab"), part(2, "cde")}, "", api.ErrLength)
	joined(t, "too short, no zeros", c, []api.Part{part(0, "\x01\x00\x00"), part(1, "\x00ab"), part(2, "cde")}, "", api.ErrLength)
}

// explained: the value of which these are the rows of data, found by going through all that they could be of; and whether there is one.
func explained(data [][]byte) ([]byte, bool) {
	whole := bytes.Join(data, nil)
	for long := 0; long+4 <= len(whole); long++ {
		value := whole[4 : 4+long]
		if sameRows(dataOf(value, len(data)), data) {
			return value, true
		}
	}
	return nil, false
}

func TestJoinTakesJustWhatSplitMakes(t *testing.T) {
	r := random()
	taken := 0
	for range 20000 {
		k := 1 + r.IntN(6)
		c := made(t, k+r.IntN(4), k)
		data := make([][]byte, k)
		size := 1 + r.IntN(9)
		for j := range data {
			data[j] = make([]byte, size)
			for i := range data[j] {
				if r.IntN(3) == 0 {
					data[j][i] = byte(r.IntN(3))
				}
			}
		}
		if size*k >= 4 && r.IntN(4) > 0 {
			told(data, uint32(r.IntN(size*k+2)))
		}
		value, ok := explained(data)
		got, e := stripe.Join(c, chosen(r, encoded(t, c, data), k+r.IntN(c.N()-k+1)))
		if ok != (e == api.OK) || !bytes.Equal(got, value) {
			t.Fatalf("P5.3: K %d, %x: %x, %d, want %x, %v", k, data, got, e, value, ok)
		}
		if ok {
			taken++
		}
	}
	if taken < 1000 {
		t.Errorf("only %d were taken: the test says little", taken)
	}
}

func TestAnyKFragmentsGiveTheValueBack(t *testing.T) {
	r := random()
	for n := 1; n <= 6; n++ {
		for k := 1; k <= n; k++ {
			c := made(t, n, k)
			for _, long := range []int{0, 1, 3, 7, 20} {
				value := noise(r, long)
				all, _ := stripe.Split(c, value)
				for set := range 1 << n {
					var parts []api.Part
					for i := range n {
						if set>>i&1 == 1 {
							parts = append(parts, api.Part{Index: i, Data: all[i]})
						}
					}
					r.Shuffle(len(parts), func(i, j int) { parts[i], parts[j] = parts[j], parts[i] })
					if len(parts) < k {
						joined(t, "too few", c, parts, "", api.ErrFew)
					} else {
						joined(t, "any", c, parts, string(value), api.OK)
					}
				}
			}
		}
	}
	for _, x := range [][2]int{{255, 1}, {255, 2}, {255, 100}, {255, 254}, {255, 255}, {100, 33}} {
		c := made(t, x[0], x[1])
		value := noise(r, 1000+r.IntN(1000))
		all := fragments(t, c, value)
		for _, m := range []int{x[1], (x[0] + x[1]) / 2, x[0]} {
			joined(t, "a large code", c, chosen(r, all, m), string(value), api.OK)
		}
	}
}

// spoilt turns bytes of so many of the parts, at one place or more of each, and tells their indexes, rising.
func spoilt(r *rand.Rand, parts []api.Part, many int) []int {
	var wrong []int
	for _, i := range r.Perm(len(parts))[:many] {
		data := parts[i].Data
		for _, place := range r.Perm(len(data))[:1+r.IntN(len(data))] {
			data[place] ^= byte(1 + r.IntN(255))
		}
		wrong = append(wrong, parts[i].Index)
	}
	slices.Sort(wrong)
	return wrong
}

func TestMendGivesTheValueBackAndTellsTheWrongOnes(t *testing.T) {
	r := random()
	for _, x := range [][2]int{{3, 1}, {5, 1}, {4, 2}, {6, 3}, {7, 3}, {9, 4}, {12, 12}, {30, 10}, {255, 1}, {255, 250}, {255, 5}} {
		c := made(t, x[0], x[1])
		for range 12 {
			value := noise(r, r.IntN(60))
			m := x[1] + r.IntN(x[0]-x[1]+1)
			for many := 0; many <= mend.Most(c, m); many += 1 + many/3 {
				parts := chosen(r, fragments(t, c, value), m)
				wrong := spoilt(r, parts, many)
				got, told, e := stripe.Mend(c, parts)
				if e != api.OK || !bytes.Equal(got, value) || !slices.Equal(told, wrong) {
					t.Fatalf("P5.6: N %d, K %d, %d of %d parts wrong: %x, %v, %d, want %x, %v", x[0], x[1], many, m, got, told, e, value, wrong)
				}
				if many > 0 {
					if got, e := stripe.Join(c, parts); got != nil || e != api.ErrWrong {
						t.Fatalf("P5.3: N %d, K %d, %d of %d parts wrong: Join %x, %d, want ErrWrong", x[0], x[1], many, m, got, e)
					}
				}
			}
		}
	}
}

func TestMendOfALongValue(t *testing.T) {
	r := random()
	c := made(t, 9, 3)
	value := noise(r, 65536)
	parts := chosen(r, fragments(t, c, value), 9)
	wrong := spoilt(r, parts, 3)
	got, told, e := stripe.Mend(c, parts)
	if e != api.OK || !bytes.Equal(got, value) || !slices.Equal(told, wrong) {
		t.Errorf("P5.6: three of nine wrong: %d bytes, %v, %d, want %v", len(got), told, e, wrong)
	}
}

func TestMendRefusesMoreThanMost(t *testing.T) {
	r := random()
	for _, x := range [][3]int{{4, 2, 3}, {4, 2, 4}, {7, 3, 7}, {7, 3, 4}, {9, 3, 9}} {
		c := made(t, x[0], x[1])
		most := mend.Most(c, x[2])
		for range 20 {
			parts := chosen(r, fragments(t, c, noise(r, 40)), x[2])
			for i := range most + 1 { // each at a place of its own: at each place alone it could be told
				parts[i].Data[i] ^= byte(1 + r.IntN(255))
			}
			joined(t, "one more than may be", c, parts, "", api.ErrWrong)
		}
	}
}

// The mended data may be no stripe: then neither a value nor an index is told.
func TestMendOfWhatIsNoStripe(t *testing.T) {
	r := random()
	c := made(t, 6, 2)
	for _, x := range []struct {
		name string
		data [][]byte
		e    api.Errno
	}{
		{"no size", [][]byte{{0}, {0}}, api.ErrSize},
		{"no size, too long", [][]byte{make([]byte, 32771), make([]byte, 32771)}, api.ErrSize},
		{"no length", [][]byte{{5, 0, 0, 0}, []byte("hi!\x00")}, api.ErrLength},
		{"a long length", [][]byte{{3, 0, 0, 0x80}, []byte("hi!\x00")}, api.ErrLength},
		{"a byte behind", [][]byte{{3, 0, 0, 0}, []byte("hi!\x01")}, api.ErrPad},
	} {
		parts := encoded(t, c, x.data)
		for many := range 3 {
			some := chosen(r, parts, 6)
			spoilt(r, some, many)
			if value, wrong, e := stripe.Mend(c, some); value != nil || wrong != nil || e != x.e {
				t.Errorf("P5.4: %s, %d wrong: %x, %v, %d, want %d", x.name, many, value, wrong, e, x.e)
			}
		}
	}
}

// A wrong part that tells another length or no zeros behind is one wrong part as any other.
func TestMendLooksAtTheStripeBehindTheMending(t *testing.T) {
	c := made(t, 4, 2)
	parts := fragments(t, c, []byte("hi!"))
	parts[0].Data[3] = 0xff
	value, wrong, e := stripe.Mend(c, parts)
	if string(value) != "hi!" || !slices.Equal(wrong, []int{0}) || e != api.OK {
		t.Errorf("P5.4: another length: %q, %v, %d", value, wrong, e)
	}
	parts = fragments(t, c, []byte("hi!"))
	parts[1].Data[3] = 1
	value, wrong, e = stripe.Mend(c, parts)
	if string(value) != "hi!" || !slices.Equal(wrong, []int{1}) || e != api.OK {
		t.Errorf("P5.4: another byte behind: %q, %v, %d", value, wrong, e)
	}
}

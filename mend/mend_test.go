package mend_test

import (
	"bytes"
	"math"
	"math/rand/v2"
	"slices"
	"testing"

	"sherd/api"
	"sherd/code"
	"sherd/mend"
)

func made(t *testing.T, n int, k int) *code.Code {
	t.Helper()
	c, e := code.New(n, k)
	if e != api.OK {
		t.Fatalf("code.New(%d, %d): %d", n, k, e)
	}
	return c
}

func random() *rand.Rand { return rand.New(rand.NewPCG(4, 127)) }

// noise: so many rows of so many bytes.
func noise(r *rand.Rand, rows int, long int) [][]byte {
	all := make([][]byte, rows)
	for i := range all {
		all[i] = make([]byte, long)
		for j := range all[i] {
			all[i][j] = byte(r.Uint32())
		}
	}
	return all
}

func sameRows(a [][]byte, b [][]byte) bool { return slices.EqualFunc(a, b, bytes.Equal) }

func part(index int, data string) api.Part { return api.Part{Index: index, Data: []byte(data)} }

func texts(all ...string) [][]byte {
	var rows [][]byte
	for _, text := range all {
		rows = append(rows, []byte(text))
	}
	return rows
}

// rows: the parts of the data with these indexes, in their order, none sharing memory with another.
func rows(t *testing.T, c *code.Code, data [][]byte, indexes []int) []api.Part {
	t.Helper()
	all, e := c.Encode(data)
	if e != api.OK {
		t.Fatalf("Encode: %d", e)
	}
	var parts []api.Part
	for _, i := range indexes {
		parts = append(parts, api.Part{Index: i, Data: bytes.Clone(all[i])})
	}
	return parts
}

// spoil turns a byte of a part at a place into another.
func spoil(r *rand.Rand, p api.Part, place int) { p.Data[place] ^= byte(1 + r.IntN(255)) }

// told holds one call against what is asked of it.
func told(t *testing.T, name string, c *code.Code, parts []api.Part, data [][]byte, wrong []int, e api.Errno) {
	t.Helper()
	gotData, gotWrong, got := mend.Decode(c, parts)
	if got != e || !sameRows(gotData, data) || !slices.Equal(gotWrong, wrong) {
		t.Errorf("P4.2: %s: %.200q, %v, %d, want %.200q, %v, %d", name, gotData, gotWrong, got, data, wrong, e)
	}
}

func TestMostIsHalfOfWhatIsToSpare(t *testing.T) {
	for _, size := range [][2]int{{1, 1}, {2, 1}, {3, 1}, {4, 2}, {4, 4}, {5, 2}, {7, 3}, {9, 9}, {255, 1}, {255, 128}, {255, 254}, {255, 255}} {
		n, k := size[0], size[1]
		c := made(t, n, k)
		for m := -3; m <= n+3; m++ {
			want := 0
			for m >= k && m <= n && k+2*(want+1) <= m { // one more wrong one takes two more parts
				want++
			}
			if got := mend.Most(c, m); got != want {
				t.Errorf("P4.1: Most of %d at N %d, K %d: %d, want %d", m, n, k, got, want)
			}
		}
		for _, m := range []int{math.MinInt, math.MinInt + 1, -256, 256, 512, math.MaxInt - 1, math.MaxInt} {
			if got := mend.Most(c, m); got != 0 {
				t.Errorf("P4.1: Most of %d at N %d, K %d: %d, want 0", m, n, k, got)
			}
		}
	}
}

func TestMostOfTheExamples(t *testing.T) {
	for _, x := range [][4]int{{5, 2, 2, 0}, {5, 2, 3, 0}, {5, 2, 4, 1}, {5, 2, 5, 1}, {5, 2, 1, 0}, {5, 2, 6, 0}, {7, 3, 7, 2}, {4, 4, 4, 0}} {
		if got := mend.Most(made(t, x[0], x[1]), x[2]); got != x[3] {
			t.Errorf("P4.1: Most of %d at N %d, K %d: %d, want %d", x[2], x[0], x[1], got, x[3])
		}
	}
}

func TestMostOfNoCode(t *testing.T) {
	for _, m := range []int{math.MinInt, -1, 0, 1, 2, 3, 255, math.MaxInt} {
		if got := mend.Most(nil, m); got != 0 {
			t.Errorf("P4.1: Most of %d and no code: %d, want 0", m, got)
		}
	}
}

func TestDecodeOfTheExamples(t *testing.T) {
	c := made(t, 5, 1)
	told(t, "example 2", c, []api.Part{part(0, "ab"), part(1, "ab"), part(2, "ax"), part(3, "zz"), part(4, "ab")}, texts("ab"), []int{2, 3}, api.OK)
	told(t, "example 2", c, []api.Part{part(0, "ab"), part(1, "ab"), part(2, "cd"), part(3, "cd"), part(4, "ef")}, nil, nil, api.ErrWrong)
	told(t, "example 2", c, []api.Part{part(4, "ab"), part(0, "ab"), part(2, "ax")}, texts("ab"), []int{2}, api.OK)

	c = made(t, 4, 2)
	data := texts("first", "later")
	parts := rows(t, c, data, []int{0, 1, 2, 3})
	parts[3].Data[4] ^= 1
	told(t, "example 3, the last byte of part 3", c, parts, data, []int{3}, api.OK)
	told(t, "example 3, three of which one is wrong", c, parts[1:], nil, nil, api.ErrWrong)
	told(t, "example 3, parts 0 and 1 alone", c, []api.Part{part(1, "wha"), part(0, "tev")}, texts("tev", "wha"), nil, api.OK)

	parts = rows(t, c, data, []int{0, 1, 2, 3})
	parts[0].Data[0] ^= 9
	parts[2].Data[1] ^= 9
	told(t, "example 5", c, parts, nil, nil, api.ErrWrong)
	parts[2].Data[1] ^= 9
	told(t, "example 5, one of the two right again", c, parts, data, []int{0}, api.OK)
	parts[0].Data[3] ^= 1
	told(t, "one part wrong in two places", c, parts, data, []int{0}, api.OK)
}

func TestDecodeRefusesInOrder(t *testing.T) {
	c := made(t, 4, 2)
	for _, x := range []struct {
		name  string
		c     *code.Code
		parts []api.Part
		want  api.Errno
	}{
		{"no code", nil, []api.Part{part(0, "a"), part(1, "b")}, api.ErrArg},
		{"no code and nothing else right", nil, []api.Part{part(-1, "a"), part(9, ""), part(9, "")}, api.ErrArg},
		{"no code, no parts", nil, nil, api.ErrArg},
		{"index N", c, []api.Part{part(0, "a"), part(1, "b"), part(4, "c")}, api.ErrIndex},
		{"index below 0", c, []api.Part{part(-1, "a"), part(1, "b")}, api.ErrIndex},
		{"index 256, which as a byte is 0", c, []api.Part{part(256, "a"), part(1, "b")}, api.ErrIndex},
		{"the least and the greatest index", c, []api.Part{part(math.MinInt, "a"), part(math.MaxInt, "b")}, api.ErrIndex},
		{"9, 9", c, []api.Part{part(9, "a"), part(9, "a")}, api.ErrIndex},
		{"twice, unlike lengths, index behind them", c, []api.Part{part(1, "a"), part(1, ""), part(4, "b")}, api.ErrIndex},
		{"1, 1", c, []api.Part{part(1, "a"), part(1, "a")}, api.ErrTwice},
		{"1, 1 of unlike lengths", c, []api.Part{part(1, "a"), part(1, "ab")}, api.ErrTwice},
		{"unlike lengths, then twice", c, []api.Part{part(0, "a"), part(2, "ab"), part(3, "a"), part(0, "a")}, api.ErrTwice},
		{"a and nothing", c, []api.Part{part(0, "a"), part(1, "")}, api.ErrSize},
		{"nothing and a", c, []api.Part{part(0, ""), part(1, "a")}, api.ErrSize},
		{"one part longer than four that agree", c, []api.Part{part(0, "a"), part(1, "a"), part(2, "a"), part(3, "aa")}, api.ErrSize},
		{"no parts", c, nil, api.ErrFew},
		{"one part", c, []api.Part{part(3, "a")}, api.ErrFew},
		{"one part without bytes", c, []api.Part{part(3, "")}, api.ErrFew},
		{"two unlike of one row", made(t, 4, 3), []api.Part{part(3, "a"), part(1, "")}, api.ErrSize},
		{"three of K 2 that don't agree", c, []api.Part{part(3, "a"), part(1, "b"), part(0, "c")}, api.ErrWrong},
		{"four of which two and two agree", c, []api.Part{part(3, "a"), part(1, "a"), part(0, "b"), part(2, "b")}, api.ErrWrong},
	} {
		told(t, x.name, x.c, x.parts, nil, nil, x.want)
	}
}

func TestDecodeOfNoBytes(t *testing.T) {
	for _, size := range [][2]int{{1, 1}, {5, 1}, {5, 2}, {4, 4}, {255, 100}} {
		n, k := size[0], size[1]
		c := made(t, n, k)
		for m := k; m <= n; m++ {
			var parts []api.Part
			for i := range m {
				parts = append(parts, api.Part{Index: n - 1 - i})
			}
			told(t, "parts without bytes", c, parts, make([][]byte, k), nil, api.OK)
		}
	}
}

// reference goes through all data that K of the parts make: data from which few enough parts part has K right parts among them.
func reference(t *testing.T, c *code.Code, parts []api.Part) ([][]byte, []int, api.Errno) {
	t.Helper()
	for set := range 1 << len(parts) {
		var some []api.Part
		for i, p := range parts {
			if set>>i&1 == 1 {
				some = append(some, p)
			}
		}
		if len(some) != c.K() {
			continue
		}
		data, e := c.Decode(some)
		if e != api.OK {
			t.Fatalf("code.Decode of K parts: %d", e)
		}
		all, _ := c.Encode(data)
		var wrong []int
		for _, p := range parts {
			if !bytes.Equal(p.Data, all[p.Index]) {
				wrong = append(wrong, p.Index)
			}
		}
		if 2*len(wrong) <= len(parts)-c.K() {
			slices.Sort(wrong)
			return data, wrong, api.OK
		}
	}
	return nil, nil, api.ErrWrong
}

func TestDecodeIsWhatAllSubsetsTell(t *testing.T) {
	r := random()
	seen := map[api.Errno]int{}
	for n := 1; n <= 8; n++ {
		for k := 1; k <= n; k++ {
			c := made(t, n, k)
			for range 60 {
				m := k + r.IntN(n-k+1)
				long := 1 + r.IntN(3)
				parts := rows(t, c, noise(r, k, long), r.Perm(n)[:m])
				for range r.IntN(mend.Most(c, m) + 3) {
					spoil(r, parts[r.IntN(m)], r.IntN(long))
				}
				data, wrong, e := reference(t, c, parts)
				told(t, "some spoilt", c, parts, data, wrong, e)
				seen[e]++
				for i, row := range noise(r, m, long) {
					parts[i].Data = row
				}
				data, wrong, e = reference(t, c, parts)
				told(t, "noise", c, parts, data, wrong, e)
			}
		}
	}
	if seen[api.OK] < 500 || seen[api.ErrWrong] < 200 {
		t.Errorf("too few of a kind were tried: %v", seen)
	}
}

// TestDecodeOfAllColumns goes through every column of a code whose bytes are from a few: near the data, just too far from it, and far.
func TestDecodeOfAllColumns(t *testing.T) {
	for _, x := range [][3]int{{5, 1, 4}, {6, 2, 3}, {7, 3, 2}, {8, 2, 2}} {
		n, k, few := x[0], x[1], x[2]
		c := made(t, n, k)
		total := 1
		for range n {
			total *= few
		}
		for number := range total {
			var parts []api.Part
			for i := range n {
				parts = append(parts, api.Part{Index: i, Data: []byte{byte(number % few)}})
				number /= few
			}
			data, wrong, e := reference(t, c, parts)
			told(t, "a column", c, parts, data, wrong, e)
		}
	}
}

// greatSizes: N, K and how many parts.
func greatSizes() [][3]int {
	return [][3]int{{255, 1, 255}, {255, 1, 254}, {255, 2, 255}, {255, 85, 255}, {255, 128, 255}, {255, 250, 255}, {255, 252, 255}, {254, 100, 201}, {60, 20, 41}, {30, 10, 30}, {16, 4, 15}}
}

func TestDecodeOfGreatCodes(t *testing.T) {
	r := random()
	for _, size := range greatSizes() {
		n, k, m := size[0], size[1], size[2]
		c := made(t, n, k)
		data := noise(r, k, 5)
		most := mend.Most(c, m)
		for _, bad := range []int{0, 1, most - 1, most} {
			indexes := r.Perm(n)[:m]
			parts := rows(t, c, data, indexes)
			for i := range bad { // each in a place of its own, as far as there are so many, some in more
				spoil(r, parts[i], i%5)
				if i%3 == 0 {
					spoil(r, parts[i], (i+2)%5)
				}
			}
			wrong := slices.Sorted(slices.Values(indexes[:bad]))
			told(t, "as many wrong as may be", c, parts, data, wrong, api.OK)
			r.Shuffle(m, func(i int, j int) { parts[i], parts[j] = parts[j], parts[i] })
			told(t, "in another order", c, parts, data, wrong, api.OK)
		}
	}
}

func TestDecodeOfWrongPartsInEveryPlace(t *testing.T) {
	r := random()
	for _, size := range greatSizes() {
		n, k, m := size[0], size[1], size[2]
		c := made(t, n, k)
		data := noise(r, k, 3)
		indexes := r.Perm(n)[:m]
		parts := rows(t, c, data, indexes)
		most := mend.Most(c, m)
		for i := range most {
			for place := range 3 {
				spoil(r, parts[m-1-i], place)
			}
		}
		told(t, "parts wrong in all places", c, parts, data, slices.Sorted(slices.Values(indexes[m-most:])), api.OK)
	}
}

func TestDecodeOfOneWrongPartTooMany(t *testing.T) {
	r := random()
	for _, size := range greatSizes() {
		n, k, m := size[0], size[1], size[2]
		c := made(t, n, k)
		parts := rows(t, c, noise(r, k, 2), r.Perm(n)[:m])
		most := mend.Most(c, m)
		for i := range most {
			spoil(r, parts[i], 0)
		}
		spoil(r, parts[most], 1) // each place by itself can be told
		told(t, "one too many, in another place", c, parts, nil, nil, api.ErrWrong)
	}
	for _, size := range greatSizes()[:9] { // with so much to spare, data that chance comes near to is not met
		n, k, m := size[0], size[1], size[2]
		c := made(t, n, k)
		parts := rows(t, c, noise(r, k, 40), r.Perm(n)[:m])
		for i := range mend.Most(c, m) + 1 {
			for place := range 40 {
				spoil(r, parts[i], place)
			}
		}
		told(t, "one too many in all places", c, parts, nil, nil, api.ErrWrong)
	}
}

// TestDecodeOfEachPartWrong: the point 0 has no inverse, and the first K parts are those that the data are made of.
func TestDecodeOfEachPartWrong(t *testing.T) {
	r := random()
	for _, size := range [][2]int{{3, 1}, {5, 3}, {12, 7}, {255, 253}} {
		n, k := size[0], size[1]
		c := made(t, n, k)
		data := noise(r, k, 2)
		indexes := r.Perm(n)
		for i, index := range indexes {
			parts := rows(t, c, data, indexes)
			spoil(r, parts[i], i%2)
			told(t, "one part wrong", c, parts, data, []int{index}, api.OK)
		}
	}
}

func TestDecodeWithOneToSpareTellsNone(t *testing.T) {
	r := random()
	for _, size := range [][2]int{{2, 1}, {4, 3}, {9, 4}, {255, 254}} {
		n, k := size[0], size[1]
		c := made(t, n, k)
		data := noise(r, k, 3)
		parts := rows(t, c, data, r.Perm(n)[:k+1])
		told(t, "one to spare, none wrong", c, parts, data, nil, api.OK)
		for i := range parts {
			place := r.IntN(3)
			old := parts[i].Data[place]
			spoil(r, parts[i], place)
			told(t, "one to spare, one wrong", c, parts, nil, nil, api.ErrWrong)
			parts[i].Data[place] = old
		}
		parts = parts[:k]
		for _, p := range parts {
			spoil(r, p, 0)
		}
		want, _ := c.Decode(parts)
		told(t, "just K, whatever they are", c, parts, want, nil, api.OK)
	}
}

func TestDecodeOfLongParts(t *testing.T) {
	r := random()
	c := made(t, 9, 3)
	for _, long := range []int{255, 256, 257, 511, 512, 513, 3000, 65540} {
		data := noise(r, 3, long)
		indexes := r.Perm(9)
		parts := rows(t, c, data, indexes)
		for i, place := range []int{long - 1, 0, long / 2} { // the first, the last and one between
			spoil(r, parts[i], place)
		}
		told(t, "long parts", c, parts, data, slices.Sorted(slices.Values(indexes[:3])), api.OK)
		spoil(r, parts[8], long-1)
		told(t, "long parts, at the end one wrong part too many", c, parts, nil, nil, api.ErrWrong)
	}
}

package code_test

import (
	"math"
	"math/bits"
	"math/rand/v2"
	"testing"

	"sherd/api"
	"sherd/code"
)

func part(index int, data ...byte) api.Part { return api.Part{Index: index, Data: data} }

// refused fails unless Decode answers no data and this error.
func refused(t *testing.T, what string, c *code.Code, parts []api.Part, want api.Errno) {
	t.Helper()
	if data, e := c.Decode(parts); data != nil || e != want {
		t.Errorf("%s: Decode(%v) is %v, %d, want %d", what, parts, data, e, want)
	}
}

// decodes fails unless Decode answers these data.
func decodes(t *testing.T, what string, c *code.Code, parts []api.Part, want [][]byte) {
	t.Helper()
	if data, e := c.Decode(parts); e != api.OK || !sameRows(data, want) {
		t.Fatalf("%s: of %d and %d, Decode(%v) is %v, %d, want %v", what, c.N(), c.K(), parts, data, e, want)
	}
}

// drawn: the parts of some of the rows, in an order by chance. Each has its own memory.
func drawn(chance *rand.Rand, rows [][]byte, indexes []int) []api.Part {
	parts := make([]api.Part, len(indexes))
	for to, from := range chance.Perm(len(indexes)) {
		parts[to] = part(indexes[from], append([]byte{}, rows[indexes[from]]...)...)
	}
	return parts
}

// subsets of the numbers below n, of just so many.
func subsets(n int, many int) [][]int {
	var all [][]int
	for word := range 1 << n {
		if bits.OnesCount(uint(word)) != many {
			continue
		}
		var set []int
		for i := range n {
			if word>>i&1 == 1 {
				set = append(set, i)
			}
		}
		all = append(all, set)
	}
	return all
}

func TestDecodeOfTheExamples(t *testing.T) {
	c := made(t, 3, 2)
	decodes(t, "C1", c, []api.Part{part(2, 1, 0x1e), part(0, 5, 0x0a)}, [][]byte{{5, 0x0a}, {7, 0}})
	decodes(t, "C1", c, []api.Part{part(2, 1, 0x1e), part(0, 5, 0x0a), part(1, 7, 0)}, [][]byte{{5, 0x0a}, {7, 0}})
	refused(t, "C1", c, []api.Part{part(2, 1, 0x1e), part(0, 5, 0x0a), part(1, 7, 1)}, api.ErrWrong)
	refused(t, "C1", c, []api.Part{part(0, 5, 0x0a)}, api.ErrFew)
	refused(t, "C1", c, []api.Part{part(0, 5, 0x0a), part(0, 5, 0x0a)}, api.ErrTwice)
	refused(t, "C1", c, []api.Part{part(3, 0)}, api.ErrIndex)
	refused(t, "C1", c, []api.Part{part(3, 0), part(0, 5, 0x0a), part(0, 5, 0x0a)}, api.ErrIndex)
	refused(t, "C1", c, []api.Part{part(0, 5), part(1, 7, 0)}, api.ErrSize)
	refused(t, "C1", c, nil, api.ErrFew)
	refused(t, "C1", c, []api.Part{}, api.ErrFew)
	decodes(t, "C1", c, []api.Part{part(0), part(2)}, [][]byte{{}, {}})
}

func TestDecodeTellsTheFirstErrorThatApplies(t *testing.T) {
	c := made(t, 5, 3)
	for _, index := range []int{math.MinInt, -1, 5, 254, 255, 256, 257, math.MaxInt} {
		for place := range 4 { // wherever it stands, with all other errors beside it
			parts := []api.Part{part(1, 1), part(1, 2, 3), part(2, 3), part(4, 9)}
			parts[place].Index = index
			refused(t, "P4: ErrIndex", c, parts, api.ErrIndex)
			refused(t, "P4: ErrIndex", c, parts[place:place+1], api.ErrIndex)
		}
	}
	for _, parts := range [][]api.Part{
		{part(0, 1), part(0, 1)},
		{part(0, 1), part(0, 2, 2)},
		{part(0, 1, 1), part(1, 1), part(0, 1, 1)},
		{part(4, 1), part(1, 1), part(2, 1), part(3, 1), part(4, 1)},
		{part(0, 1), part(1, 2), part(2, 3), part(3, 4), part(4, 5), part(2, 3)},
	} {
		refused(t, "P4: ErrTwice", c, parts, api.ErrTwice)
	}
	many := make([]api.Part, 1000)
	refused(t, "P4: ErrTwice of a thousand", c, many, api.ErrTwice)
	for _, parts := range [][]api.Part{
		{part(0, 1), part(1)},
		{part(0), part(1, 1)},
		{part(0, 1, 1), part(1, 1), part(2, 1), part(3, 1)},
		{part(0, 1), part(1, 1), part(2, 1), part(3, 1, 1)},
		{part(0, 1), part(1, 1), part(2, 1), part(3, 99), part(4)},
	} {
		refused(t, "P4: ErrSize", c, parts, api.ErrSize)
	}
	refused(t, "P4: ErrFew", c, []api.Part{part(4, 1), part(0, 7)}, api.ErrFew)
	refused(t, "P4: ErrFew", c, []api.Part{part(4)}, api.ErrFew)
	refused(t, "P4: ErrFew", made(t, 255, 255), make([]api.Part, 1), api.ErrFew)
}

func TestAnyRowsThatAreEnoughDecode(t *testing.T) {
	chance := random()
	for n := 1; n <= 7; n++ {
		for k := 1; k <= n; k++ {
			c := made(t, n, k)
			for _, long := range []int{0, 1, 4} {
				data := noise(chance, k, long)
				rows, _ := c.Encode(data)
				for many := k; many <= n; many++ {
					for _, set := range subsets(n, many) {
						decodes(t, "C2", c, drawn(chance, rows, set), data)
					}
				}
			}
		}
	}
}

// permuted gives to visit every order of the parts.
func permuted(parts []api.Part, done int, visit func()) {
	if done == len(parts) {
		visit()
	}
	for i := done; i < len(parts); i++ {
		parts[done], parts[i] = parts[i], parts[done]
		permuted(parts, done+1, visit)
		parts[done], parts[i] = parts[i], parts[done]
	}
}

func TestPartsDecodeInAnyOrder(t *testing.T) {
	chance := random()
	c := made(t, 6, 3)
	data := noise(chance, 3, 2)
	rows, _ := c.Encode(data)
	for many := 3; many <= 5; many++ {
		for _, set := range subsets(6, many) {
			parts := drawn(chance, rows, set)
			permuted(parts, 0, func() { decodes(t, "C2", c, parts, data) })
		}
	}
}

func TestGreatCodesDecode(t *testing.T) {
	chance := random()
	for _, size := range sizes() {
		n, k := size[0], size[1]
		c := made(t, n, k)
		data := noise(chance, k, 3)
		rows, _ := c.Encode(data)
		for _, many := range []int{k, (n + k) / 2, n} {
			decodes(t, "C2", c, drawn(chance, rows, chance.Perm(n)[:many]), data)
		}
		last := make([]int, k) // the rows that are least the data
		for i := range last {
			last[i] = n - k + i
		}
		decodes(t, "C2", c, drawn(chance, rows, last), data)
	}
}

// whole fails unless some data have all these parts, which are as many as k.
func whole(t *testing.T, c *code.Code, parts []api.Part) {
	t.Helper()
	data, e := c.Decode(parts)
	if e != api.OK {
		t.Fatalf("C3: of %d and %d, Decode(%v): %d", c.N(), c.K(), parts, e)
	}
	rows, _ := c.Encode(data)
	for _, p := range parts {
		if string(rows[p.Index]) != string(p.Data) {
			t.Fatalf("C3: of %d and %d, the data %v have not the part %v", c.N(), c.K(), data, p)
		}
	}
}

func TestFewerThanAreNeededTellNothing(t *testing.T) {
	chance := random()
	for n := 1; n <= 6; n++ {
		for k := 1; k <= n; k++ {
			c := made(t, n, k)
			rows, _ := c.Encode(noise(chance, k, 2))
			for _, set := range subsets(n, k) {
				for further := range set {
					parts := drawn(chance, rows, set)
					parts[further].Data = noise(chance, 1, 2)[0]
					whole(t, c, parts)
				}
			}
		}
	}
	c := made(t, 4, 2)
	for b := range 256 { // each byte that the other row could have
		whole(t, c, []api.Part{part(3, 77), part(2, byte(b))})
	}
	for _, size := range sizes() {
		c := made(t, size[0], size[1])
		rows, _ := c.Encode(noise(chance, c.K(), 1))
		parts := drawn(chance, rows, chance.Perm(c.N())[:c.K()])
		parts[chance.IntN(c.K())].Data[0] ^= byte(1 + chance.IntN(255))
		whole(t, c, parts)
	}
}

// spoil turns a part into a wrong one: in one place, or in all.
func spoil(chance *rand.Rand, p api.Part) {
	if chance.IntN(2) == 0 {
		p.Data[chance.IntN(len(p.Data))] ^= byte(1 + chance.IntN(255))
		return
	}
	for i := range p.Data {
		p.Data[i] ^= byte(1 + chance.IntN(255))
	}
}

func TestWrongPartsAreSeen(t *testing.T) {
	chance := random()
	for n := 2; n <= 7; n++ {
		for k := 1; k < n; k++ {
			c := made(t, n, k)
			rows, _ := c.Encode(noise(chance, k, 3))
			for d := 1; k+d <= n; d++ {
				for _, set := range subsets(n, k+d) {
					for wrong := 1; wrong <= d; wrong++ {
						parts := drawn(chance, rows, set)
						for _, i := range chance.Perm(len(parts))[:wrong] {
							spoil(chance, parts[i])
						}
						refused(t, "C4", c, parts, api.ErrWrong)
					}
				}
			}
		}
	}
}

func TestOneWrongBitIsSeenWhereverItStands(t *testing.T) {
	chance := random()
	for _, size := range [][2]int{{2, 1}, {5, 3}, {9, 8}, {255, 253}} {
		n, k := size[0], size[1]
		c := made(t, n, k)
		rows, _ := c.Encode(noise(chance, k, 3))
		for i := range k + 1 {
			for place := range 3 {
				parts := drawn(chance, rows, chance.Perm(n)[:k+1])
				parts[i].Data[place] ^= 1 << (place + i%6)
				refused(t, "C4", c, parts, api.ErrWrong)
			}
		}
	}
}

func TestOtherDataAreOtherData(t *testing.T) {
	chance := random()
	for _, size := range [][2]int{{3, 2}, {7, 4}, {9, 1}, {255, 128}} {
		n, k := size[0], size[1]
		c := made(t, n, k)
		one := noise(chance, k, 1)
		rows, _ := c.Encode(one)
		parts := drawn(chance, rows, chance.Perm(n)[:k])
		parts[0].Data[0] ^= 1 // as many wrong ones as can be: data that share k - 1 rows with the first
		other, _ := c.Decode(parts)
		otherRows, _ := c.Encode(other)
		alike := 0
		for i := range rows {
			if rows[i][0] == otherRows[i][0] {
				alike++
			}
		}
		if alike != k-1 {
			t.Errorf("C4: unlike data of %d and %d share %d rows", n, k, alike)
		}
		decodes(t, "C4", c, drawn(chance, otherRows, chance.Perm(n)), other)
	}
}

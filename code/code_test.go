package code_test

import (
	"bytes"
	"math"
	"math/rand/v2"
	"slices"
	"testing"

	"sherd/api"
	"sherd/code"
)

func made(t *testing.T, n int, k int) *code.Code {
	t.Helper()
	c, e := code.New(n, k)
	if e != api.OK || c == nil || c.N() != n || c.K() != k {
		t.Fatalf("C1: New(%d, %d): %d, of %d and %d", n, k, e, c.N(), c.K())
	}
	return c
}

func sameRows(a [][]byte, b [][]byte) bool { return slices.EqualFunc(a, b, bytes.Equal) }

// sizes: all small codes, and great ones at the edges and in between.
func sizes() [][2]int {
	all := [][2]int{{20, 11}, {64, 32}, {200, 199}, {254, 127}, {255, 1}, {255, 2}, {255, 128}, {255, 254}, {255, 255}}
	for n := 1; n <= 9; n++ {
		for k := 1; k <= n; k++ {
			all = append(all, [2]int{n, k})
		}
	}
	return all
}

func random() *rand.Rand { return rand.New(rand.NewPCG(3, 255)) }

// noise: so many rows of so many bytes.
func noise(r *rand.Rand, rows int, long int) [][]byte {
	all := make([][]byte, rows)
	for i := range all {
		all[i] = make([]byte, long)
		for j := range all[i] {
			all[i][j] = byte(r.Uint32())
		}
	}
	return all
}

// product in the standard field, by its definition: no table, nothing of package gf.
func product(a byte, b byte) byte {
	sum := 0
	for bit := range 8 {
		if b>>bit&1 == 1 {
			sum ^= int(a) << bit
		}
	}
	for bit := 14; bit >= 8; bit-- {
		if sum>>bit&1 == 1 {
			sum ^= 0x11d << (bit - 8)
		}
	}
	return byte(sum)
}

// reckoner: all products, and the inverses that are seen in them.
type reckoner struct {
	products [256][256]byte
	inverses [256]byte
}

func newReckoner() *reckoner {
	r := &reckoner{}
	for a := range 256 {
		for b := range 256 {
			r.products[a][b] = product(byte(a), byte(b))
			if r.products[a][b] == 1 {
				r.inverses[a] = byte(b)
			}
		}
	}
	return r
}

func (r *reckoner) value(coefficients []byte, x byte) byte {
	var sum byte
	power := byte(1)
	for _, c := range coefficients {
		sum ^= r.products[c][power]
		power = r.products[power][x]
	}
	return sum
}

// unit: the coefficients of the polynomial of degree below k that is 1 at j and 0 at the other points below k, multiplied out.
func (r *reckoner) unit(k int, j int) []byte {
	coefficients := []byte{1}
	for m := range k {
		if m == j {
			continue
		}
		factor := r.inverses[j^m]
		next := make([]byte, len(coefficients)+1)
		for i, c := range coefficients {
			next[i] ^= r.products[r.products[c][m]][factor]
			next[i+1] ^= r.products[c][factor]
		}
		coefficients = next
	}
	return coefficients
}

// through: the coefficients of the polynomial of degree below k that has these k values at the points below k.
func (r *reckoner) through(units [][]byte, values []byte) []byte {
	sum := make([]byte, len(values))
	for j, unit := range units {
		for i, c := range unit {
			sum[i] ^= r.products[values[j]][c]
		}
	}
	return sum
}

func (r *reckoner) units(k int) [][]byte {
	units := make([][]byte, k)
	for j := range units {
		units[j] = r.unit(k, j)
	}
	return units
}

func TestNewTakesJustWhatMayBe(t *testing.T) {
	numbers := []int{math.MinInt, -256, -1, 0, 1, 2, 3, 127, 128, 254, 255, 256, 257, 511, math.MaxInt}
	for _, n := range numbers {
		for _, k := range numbers {
			if 1 <= k && k <= n && n <= 255 {
				made(t, n, k)
			} else if c, e := code.New(n, k); c != nil || e != api.ErrArg {
				t.Errorf("C1: New(%d, %d) is %v, %d, want nil and ErrArg", n, k, c, e)
			}
		}
	}
}

func TestRowsOfTheExamples(t *testing.T) {
	for _, x := range []struct {
		n, k int
		want [][]byte
	}{
		{1, 1, [][]byte{{1}}},
		{3, 2, [][]byte{{1, 0}, {0, 1}, {3, 2}}},
		{4, 2, [][]byte{{1, 0}, {0, 1}, {3, 2}, {2, 3}}},
		{4, 1, [][]byte{{1}, {1}, {1}, {1}}},
		{3, 3, [][]byte{{1, 0, 0}, {0, 1, 0}, {0, 0, 1}}},
	} {
		if got := made(t, x.n, x.k).Rows(); !sameRows(got, x.want) {
			t.Errorf("C1: the generator of %d and %d is %v, want %v", x.n, x.k, got, x.want)
		}
	}
}

func TestRowsAreThePolynomialsValues(t *testing.T) {
	r := newReckoner()
	for _, size := range sizes() {
		n, k := size[0], size[1]
		rows := made(t, n, k).Rows()
		if len(rows) != n {
			t.Fatalf("C1: the generator of %d and %d has %d rows", n, k, len(rows))
		}
		units := r.units(k)
		for i, row := range rows {
			want := make([]byte, k)
			for j := range want {
				want[j] = r.value(units[j], byte(i))
			}
			if !bytes.Equal(row, want) {
				t.Fatalf("C1: row %d of the generator of %d and %d is %v, want %v", i, n, k, row, want)
			}
			if i < k && (row[i] != 1 || bytes.Count(row, []byte{0}) != k-1) {
				t.Fatalf("C1: row %d of the generator of %d and %d is not the identity's: %v", i, n, k, row)
			}
		}
	}
}

func TestEncodeOfTheExamples(t *testing.T) {
	c := made(t, 3, 2)
	for _, x := range []struct{ data, want [][]byte }{
		{[][]byte{{1}, {0}}, [][]byte{{1}, {0}, {3}}},
		{[][]byte{{1}, {1}}, [][]byte{{1}, {1}, {1}}},
		{[][]byte{{5, 0x0a}, {7, 0}}, [][]byte{{5, 0x0a}, {7, 0}, {1, 0x1e}}},
		{[][]byte{{}, {}}, [][]byte{{}, {}, {}}},
		{[][]byte{nil, {}}, [][]byte{{}, {}, {}}},
	} {
		got, e := c.Encode(x.data)
		if e != api.OK || !sameRows(got, x.want) {
			t.Errorf("C1: Encode(%x) is %x, %d, want %x", x.data, got, e, x.want)
		}
	}
}

func TestEncodeAndRowAreThePolynomialsValues(t *testing.T) {
	r, chance := newReckoner(), random()
	for _, size := range sizes() {
		n, k := size[0], size[1]
		c := made(t, n, k)
		units := r.units(k)
		for _, long := range []int{0, 1, 3} {
			data := noise(chance, k, long)
			want := noise(chance, n, long)
			for place := range long {
				values := make([]byte, k)
				for j := range values {
					values[j] = data[j][place]
				}
				polynomial := r.through(units, values)
				for i := range want {
					want[i][place] = r.value(polynomial, byte(i))
				}
			}
			got, e := c.Encode(data)
			if e != api.OK || !sameRows(got, want) {
				t.Fatalf("C1: Encode of %d and %d, %d bytes: %d, or another row than the polynomials'", n, k, long, e)
			}
			if !sameRows(got[:k], data) {
				t.Fatalf("C1: Encode of %d and %d: its first rows are not the data", n, k)
			}
			for i := range want {
				if row, e := c.Row(data, i); e != api.OK || !bytes.Equal(row, want[i]) {
					t.Fatalf("C1: Row %d of %d and %d is %x, %d, want %x", i, n, k, row, e, want[i])
				}
			}
		}
	}
}

func TestEveryByteIsEncoded(t *testing.T) {
	c := made(t, 3, 2)
	data := [][]byte{make([]byte, 65536), make([]byte, 65536)}
	for i := range data[0] {
		data[0][i], data[1][i] = byte(i), byte(i>>8)
	}
	rows, e := c.Encode(data)
	if e != api.OK || len(rows) != 3 || len(rows[2]) != 65536 {
		t.Fatalf("C1: Encode of 65536 places: %d", e)
	}
	for i, got := range rows[2] {
		if want := product(3, byte(i)) ^ product(2, byte(i>>8)); got != want {
			t.Fatalf("C1: the third row for %x and %x is %x, want %x", byte(i), byte(i>>8), got, want)
		}
	}
}

func TestShapesThatDoNotGoTogether(t *testing.T) {
	c := made(t, 5, 3)
	for _, data := range [][][]byte{
		nil,
		{},
		{{1}},
		{{1}, {2}},
		{{1}, {2}, {3}, {4}},
		{{}, {}, {}, {}},
		{{1}, {2}, {3}, {4}, {5}},
		{{}, {2}, {3}},
		{{1}, {}, {3}},
		{{1}, {2}, {}},
		{{1}, {2}, nil},
		{{1, 1}, {2}, {3}},
		{{1}, {2, 2}, {3}},
		{{1}, {2}, {3, 3}},
		{{1}, {2, 2}},
	} {
		if rows, e := c.Encode(data); rows != nil || e != api.ErrShape {
			t.Errorf("C1: Encode(%v) is %v, %d, want ErrShape", data, rows, e)
		}
		for i := range 5 {
			if row, e := c.Row(data, i); row != nil || e != api.ErrShape {
				t.Errorf("C1: Row(%v, %d) is %v, %d, want ErrShape", data, i, row, e)
			}
		}
		for _, i := range []int{math.MinInt, -1, 5, 255, 256, math.MaxInt} {
			if row, e := c.Row(data, i); row != nil || e != api.ErrIndex {
				t.Errorf("C1, P4: Row(%v, %d) is %v, %d, want ErrIndex", data, i, row, e)
			}
		}
	}
	for _, i := range []int{math.MinInt, -1, 5, math.MaxInt} {
		if row, e := c.Row([][]byte{{1}, {2}, {3}}, i); row != nil || e != api.ErrIndex {
			t.Errorf("C1: Row(.., %d) is %v, %d, want ErrIndex", i, row, e)
		}
	}
}

// plus: two lists of rows added up place by place, the second times a factor.
func plus(a [][]byte, factor byte, b [][]byte) [][]byte {
	sum := make([][]byte, len(a))
	for i := range sum {
		sum[i] = slices.Clone(a[i])
		for j := range sum[i] {
			sum[i][j] ^= product(factor, b[i][j])
		}
	}
	return sum
}

func TestEncodeIsLinear(t *testing.T) {
	chance := random()
	for _, size := range sizes() {
		c := made(t, size[0], size[1])
		a, b := noise(chance, c.K(), 7), noise(chance, c.K(), 7)
		ofA, _ := c.Encode(a)
		ofB, _ := c.Encode(b)
		for _, factor := range []byte{0, 1, 2, 0x80, 0xff} {
			got, e := c.Encode(plus(a, factor, b))
			if e != api.OK || !sameRows(got, plus(ofA, factor, ofB)) {
				t.Fatalf("C5: Encode of %v is not linear with the factor %d: %d", size, factor, e)
			}
		}
	}
}

package gf_test

import (
	"bytes"
	"math"
	"slices"
	"testing"

	"sherd/api"
	"sherd/gf"
)

// polys: the sixteen that chapter 1 names.
func polys() []int {
	return []int{0x11d, 0x12b, 0x12d, 0x14d, 0x15f, 0x163, 0x165, 0x169, 0x171, 0x187, 0x18d, 0x1a9, 0x1c3, 0x1cf, 0x1e7, 0x1f5}
}

// fields: one of each polynomial.
func fields(t *testing.T) []*gf.Field {
	t.Helper()
	var out []*gf.Field
	for _, p := range polys() {
		f, e := gf.New(p)
		if f == nil || e != api.OK {
			t.Fatalf("P1.1: New(%#x): %v, %d", p, f, e)
		}
		out = append(out, f)
	}
	return out
}

// product: by the chapter's words alone: the polynomials' product, then its remainder by long division.
func product(poly int, a byte, b byte) byte {
	wide := 0
	for i := range 8 {
		if b>>i&1 == 1 {
			wide ^= int(a) << i
		}
	}
	for i := 14; i >= 8; i-- {
		if wide>>i&1 == 1 {
			wide ^= poly << (i - 8)
		}
	}
	return byte(wide)
}

// power: the product of e times a.
func power(poly int, a byte, e int) byte {
	out := byte(1)
	for range e {
		out = product(poly, out, a)
	}
	return out
}

// generates: whether the powers of 2 modulo poly are all elements but 0.
func generates(poly int) bool {
	seen := map[byte]bool{}
	p := byte(1)
	for range 255 {
		seen[p] = true
		p = product(poly, p, 2)
	}
	return len(seen) == 255 && !seen[0]
}

func TestNewTakesSixteenPolynomials(t *testing.T) {
	var taken []int
	for p := -1100; p <= 1100; p++ {
		f, e := gf.New(p)
		if p >= 256 && p <= 511 && generates(p) {
			taken = append(taken, p)
			if f == nil || e != api.OK || f.Poly() != p {
				t.Errorf("P1.1: New(%#x): %v, %d", p, f, e)
			}
		} else if f != nil || e != api.ErrPoly {
			t.Errorf("P1.1: New(%#x): %v, %d, want nil, ErrPoly", p, f, e)
		}
	}
	if !slices.Equal(taken, polys()) {
		t.Errorf("P1.1: fields of %x, want %x", taken, polys())
	}
}

func TestNewRefuses(t *testing.T) {
	// some have the low bits of 0x11d, which must not be all that is looked at
	for _, p := range []int{0, -1, 1, 0x1d, 0xff, 0x100, 0x11b, 0x11c, 0x1ff, 0x200, 0x211, 0x31d, 0x11d - 512, -0x11d, 1<<32 + 0x11d, math.MaxInt, math.MinInt, math.MinInt + 0x11d} {
		if f, e := gf.New(p); f != nil || e != api.ErrPoly {
			t.Errorf("P1.1: New(%#x): %v, %d, want nil, ErrPoly", p, f, e)
		}
	}
}

func TestStd(t *testing.T) {
	f := gf.Std()
	if f == nil || f.Poly() != 0x11d {
		t.Fatalf("P1.1: Std() has the polynomial %#x", f.Poly())
	}
	g, _ := gf.New(0x11d)
	for a := range 256 {
		if x, y := f.Mul(byte(a), 0xb7), g.Mul(byte(a), 0xb7); x != y {
			t.Errorf("P1.1: Std: %#x times b7 is %#x, by New(0x11d) %#x", a, x, y)
		}
	}
}

func TestFieldsAreApart(t *testing.T) {
	other, _ := gf.New(0x12b)
	mine := gf.Std()
	*mine = *other
	if mine.Poly() != 0x12b || gf.Std().Poly() != 0x11d || gf.Std().Mul(2, 0x80) != 0x1d {
		t.Errorf("P2, P5: who writes over a standard field changes the next: %#x", gf.Std().Poly())
	}
	gf.New(0x1f5)
	gf.New(0x11b)
	if other.Poly() != 0x12b || other.Mul(2, 0x80) != 0x2b {
		t.Errorf("P5: making fields changes another: %#x, %#x", other.Poly(), other.Mul(2, 0x80))
	}
}

func TestAddIsExclusiveOr(t *testing.T) {
	for a := range 256 {
		for b := range 256 {
			s := gf.Add(byte(a), byte(b))
			if s != byte(a^b) || gf.Add(s, byte(b)) != byte(a) {
				t.Fatalf("P1.2: Add(%#x, %#x) = %#x", a, b, s)
			}
		}
	}
}

func TestMulIsThePolynomialsProduct(t *testing.T) {
	for _, f := range fields(t) {
		for a := range 256 {
			for b := range 256 {
				want := product(f.Poly(), byte(a), byte(b))
				if got := f.Mul(byte(a), byte(b)); got != want {
					t.Fatalf("P1.2: of %#x: Mul(%#x, %#x) = %#x, want %#x", f.Poly(), a, b, got, want)
				}
			}
		}
	}
}

func TestInvAndDiv(t *testing.T) {
	for _, f := range fields(t) {
		for b := 1; b < 256; b++ {
			inv, e := f.Inv(byte(b))
			if e != api.OK || product(f.Poly(), byte(b), inv) != 1 {
				t.Fatalf("P1.3: of %#x: Inv(%#x) = %#x, %d", f.Poly(), b, inv, e)
			}
			for a := range 256 {
				q, e := f.Div(byte(a), byte(b))
				if e != api.OK || q != product(f.Poly(), byte(a), inv) {
					t.Fatalf("P1.3: of %#x: Div(%#x, %#x) = %#x, %d", f.Poly(), a, b, q, e)
				}
			}
		}
	}
}

func TestInvAndDivByZero(t *testing.T) {
	for _, f := range fields(t) {
		if x, e := f.Inv(0); x != 0 || e != api.ErrZero {
			t.Errorf("P1.3: of %#x: Inv(0): %#x, %d", f.Poly(), x, e)
		}
		for a := range 256 {
			if x, e := f.Div(byte(a), 0); x != 0 || e != api.ErrZero {
				t.Errorf("P1.3: of %#x: Div(%#x, 0): %#x, %d", f.Poly(), a, x, e)
			}
		}
	}
}

func TestPow(t *testing.T) {
	for _, f := range fields(t) {
		for a := range 256 {
			want := byte(1)
			for e := range 600 {
				if got, err := f.Pow(byte(a), e); got != want || err != api.OK {
					t.Fatalf("P1.4: of %#x: Pow(%#x, %d) = %#x, %d, want %#x", f.Poly(), a, e, got, err, want)
				}
				want = product(f.Poly(), want, byte(a))
			}
		}
	}
}

func TestPowBelowZero(t *testing.T) {
	for _, f := range fields(t) {
		for a := 1; a < 256; a++ {
			inv, _ := f.Inv(byte(a))
			want := byte(1)
			for e := 1; e < 600; e++ {
				want = product(f.Poly(), want, inv)
				if got, err := f.Pow(byte(a), -e); got != want || err != api.OK {
					t.Fatalf("P1.4: of %#x: Pow(%#x, %d) = %#x, %d, want %#x", f.Poly(), a, -e, got, err, want)
				}
			}
		}
	}
}

// far: exponents at the ends of int, with the one from 0 to 254 that is the same modulo 255 (2^8 is 1 there, so 2^63 is 2^7).
func far() map[int]int {
	return map[int]int{math.MaxInt: 127, math.MaxInt - 1: 126, math.MinInt: 127, math.MinInt + 1: 128, 1 << 62: 64, -1 << 62: 191, 255 << 40: 0, -255 << 40: 0, 255<<40 + 7: 7, -255<<40 - 7: 248}
}

func TestPowersFarOut(t *testing.T) {
	for _, f := range fields(t) {
		for e, near := range far() {
			if got, want := f.Exp(e), power(f.Poly(), 2, near); got != want {
				t.Errorf("P1.5: of %#x: Exp(%d) = %#x, want %#x", f.Poly(), e, got, want)
			}
			for a := 1; a < 256; a++ {
				if got, err := f.Pow(byte(a), e); got != power(f.Poly(), byte(a), near) || err != api.OK {
					t.Fatalf("P1.4: of %#x: Pow(%#x, %d) = %#x, %d", f.Poly(), a, e, got, err)
				}
			}
		}
	}
}

func TestPowOfZero(t *testing.T) {
	for _, f := range fields(t) {
		for _, x := range []struct {
			e    int
			want byte
			err  api.Errno
		}{
			{0, 1, api.OK}, {1, 0, api.OK}, {5, 0, api.OK}, {255, 0, api.OK}, {510, 0, api.OK}, {math.MaxInt, 0, api.OK},
			{-1, 0, api.ErrZero}, {-255, 0, api.ErrZero}, {math.MinInt, 0, api.ErrZero},
		} {
			if got, err := f.Pow(0, x.e); got != x.want || err != x.err {
				t.Errorf("P1.4: of %#x: Pow(0, %d) = %#x, %d, want %#x, %d", f.Poly(), x.e, got, err, x.want, x.err)
			}
		}
	}
}

func TestExpAndLog(t *testing.T) {
	for _, f := range fields(t) {
		p := byte(1)
		for i := range 255 {
			for _, turns := range []int{0, 1, 2, 3, -1, -2, -3} {
				if got := f.Exp(i + 255*turns); got != p {
					t.Fatalf("P1.5: of %#x: Exp(%d) = %#x, want %#x", f.Poly(), i+255*turns, got, p)
				}
			}
			if got, e := f.Log(p); got != i || e != api.OK {
				t.Fatalf("P1.5: of %#x: Log(%#x) = %d, %d, want %d", f.Poly(), p, got, e, i)
			}
			p = product(f.Poly(), p, 2)
		}
		if got, e := f.Log(0); got != 0 || e != api.ErrZero {
			t.Errorf("P1.5: of %#x: Log(0): %d, %d", f.Poly(), got, e)
		}
	}
}

// row: n bytes that differ with seed, zeros among them.
func row(n int, seed int) []byte {
	out := make([]byte, n)
	for i := range out {
		out[i] = byte(i*i*7 + i*seed + seed)
	}
	return out
}

func TestDot(t *testing.T) {
	for _, f := range fields(t) {
		for _, n := range []int{0, 1, 2, 3, 255, 256, 1000} {
			a, b := row(n, 3), row(n, 10)
			var want byte
			for i := range a {
				want ^= product(f.Poly(), a[i], b[i])
			}
			if got, e := f.Dot(a, b); got != want || e != api.OK {
				t.Errorf("P1.6: of %#x: Dot of %d places: %#x, %d, want %#x", f.Poly(), n, got, e, want)
			}
			if !bytes.Equal(a, row(n, 3)) || !bytes.Equal(b, row(n, 10)) {
				t.Errorf("P2: Dot changes what it is given")
			}
		}
	}
}

func TestDotOfUnlikeLengths(t *testing.T) {
	f := gf.Std()
	for _, x := range [][2][]byte{{nil, {0}}, {{0}, nil}, {{}, {1}}, {{1, 2}, {3}}, {{3}, {1, 2}}, {row(256, 1), row(255, 1)}} {
		if got, e := f.Dot(x[0], x[1]); got != 0 || e != api.ErrShape {
			t.Errorf("P1.6: Dot of %d and %d places: %#x, %d", len(x[0]), len(x[1]), got, e)
		}
	}
	if got, e := f.Dot(nil, []byte{}); got != 0 || e != api.OK {
		t.Errorf("P1.6, P2: Dot of nil and a list without elements: %#x, %d", got, e)
	}
}

func TestAddMul(t *testing.T) {
	for _, f := range fields(t) {
		for _, n := range []int{0, 1, 2, 255, 256, 1000} {
			for _, c := range []byte{0, 1, 2, 0x80, 0xff} {
				room := row(n+3, 5)
				src := row(n+3, 9)
				want := row(n+3, 5)
				for i := range n {
					want[i] ^= product(f.Poly(), c, src[i])
				}
				if e := f.AddMul(room[:n], c, src[:n]); e != api.OK || !bytes.Equal(room, want) {
					t.Errorf("P1.7: of %#x: AddMul of %d places, %#x times: %d, or other bytes", f.Poly(), n, c, e)
				}
				if !bytes.Equal(src, row(n+3, 9)) {
					t.Errorf("P2: AddMul changes src")
				}
			}
		}
	}
}

func TestAddMulOfUnlikeLengths(t *testing.T) {
	f := gf.Std()
	for _, x := range [][2]int{{0, 1}, {1, 0}, {2, 3}, {3, 2}, {256, 255}} {
		dst, src := row(x[0], 5), row(x[1], 9)
		if e := f.AddMul(dst, 7, src); e != api.ErrShape || !bytes.Equal(dst, row(x[0], 5)) || !bytes.Equal(src, row(x[1], 9)) {
			t.Errorf("P1.7: AddMul of %d and %d places: %d, or something has changed", x[0], x[1], e)
		}
	}
	if e := f.AddMul(nil, 7, []byte{}); e != api.OK {
		t.Errorf("P1.7, P2: AddMul of nil and a list without elements: %d", e)
	}
}

func TestAddMulOfSharedMemory(t *testing.T) {
	f := gf.Std()
	const n = 40
	for to := range 20 {
		for from := range 20 {
			room, want, was := row(64, 3), row(64, 3), row(64, 3)
			for i := range n {
				want[to+i] ^= product(f.Poly(), 0x53, was[from+i])
			}
			if e := f.AddMul(room[to:to+n], 0x53, room[from:from+n]); e != api.OK || !bytes.Equal(room, want) {
				t.Fatalf("P1.7: AddMul of one list, from %d to %d: %d, %x, want %x", from, to, e, room, want)
			}
		}
	}
}

func TestEval(t *testing.T) {
	for _, f := range fields(t) {
		for _, n := range []int{0, 1, 2, 3, 255, 256, 300} {
			poly := row(n, 6)
			for x := range 256 {
				var want byte
				p := byte(1)
				for _, c := range poly {
					want ^= product(f.Poly(), c, p)
					p = product(f.Poly(), p, byte(x))
				}
				if got := f.Eval(poly, byte(x)); got != want {
					t.Fatalf("P1.8: of %#x: Eval of %d coefficients at %#x: %#x, want %#x", f.Poly(), n, x, got, want)
				}
			}
			if !bytes.Equal(poly, row(n, 6)) {
				t.Errorf("P2: Eval changes what it is given")
			}
		}
	}
}

func TestEvalAtZero(t *testing.T) {
	f := gf.Std()
	if y := f.Eval([]byte{5, 9}, 0); y != 5 {
		t.Errorf("P1.8: Eval((5, 9), 0) = %#x", y)
	}
	if y := f.Eval([]byte{0, 9}, 0); y != 0 {
		t.Errorf("P1.8: Eval((0, 9), 0) = %#x", y)
	}
	if y := f.Eval([]byte{}, 0); y != 0 {
		t.Errorf("P1.8: Eval of no coefficients = %#x", y)
	}
}

// useAll calls every method, wrong inputs among them.
func useAll(f *gf.Field) {
	f.Poly()
	f.Mul(3, 7)
	f.Div(3, 0)
	f.Div(3, 7)
	f.Inv(0)
	f.Inv(9)
	f.Pow(0, -1)
	f.Pow(3, math.MinInt)
	f.Exp(-7)
	f.Log(0)
	f.Log(9)
	f.Dot([]byte{1, 2}, []byte{3})
	f.AddMul([]byte{1, 2}, 3, []byte{4, 5})
	f.Eval([]byte{1, 2, 3}, 4)
}

func TestFieldNeverChanges(t *testing.T) {
	for _, f := range fields(t) {
		was := *f
		useAll(f)
		if *f != was {
			t.Errorf("P1.9: the field of %#x has changed", was.Poly())
		}
	}
}

func TestNilField(t *testing.T) {
	var f *gf.Field
	for _, a := range []byte{0, 1, 2, 0xff} {
		div, e1 := f.Div(a, a)
		inv, e2 := f.Inv(a)
		up, e3 := f.Pow(a, 0)
		down, e4 := f.Pow(a, -1)
		log, e5 := f.Log(a)
		if f.Mul(a, a) != 0 || div != 0 || inv != 0 || up != 0 || down != 0 || log != 0 || f.Exp(int(a)) != 0 || f.Eval([]byte{a, 1}, 1) != 0 {
			t.Errorf("P1.9: a nil field answers of %#x something but zeros", a)
		}
		if e1 != api.OK || e2 != api.OK || e3 != api.OK || e4 != api.OK || e5 != api.OK {
			t.Errorf("P1.9: a nil field answers errors of %#x: %d %d %d %d %d", a, e1, e2, e3, e4, e5)
		}
	}
	if f.Poly() != 0 {
		t.Errorf("P1.9: a nil field's polynomial is %#x", f.Poly())
	}
	for _, src := range [][]byte{{7, 9}, {7}, nil} {
		dst := []byte{1, 2}
		if d, e := f.Dot(dst, src); d != 0 || e != api.OK {
			t.Errorf("P1.9: a nil field's Dot: %#x, %d", d, e)
		}
		if e := f.AddMul(dst, 1, src); e != api.OK || !bytes.Equal(dst, []byte{1, 2}) {
			t.Errorf("P1.9: a nil field's AddMul: %d, %x", e, dst)
		}
	}
}

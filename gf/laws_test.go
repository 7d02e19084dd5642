package gf_test

import (
	"testing"

	"sherd/api"
	"sherd/gf"
)

// What follows from the promises: the laws of algebra.

func TestLawsOfTwo(t *testing.T) {
	for _, f := range fields(t) {
		for i := range 256 {
			a := byte(i)
			if f.Mul(a, 1) != a || f.Mul(a, 0) != 0 || gf.Add(a, 0) != a || gf.Add(a, a) != 0 {
				t.Fatalf("of %#x: 0, 1 and %#x", f.Poly(), a)
			}
			if p, e := f.Pow(a, 255); a != 0 && (p != 1 || e != api.OK) {
				t.Fatalf("of %#x: %#x to the power 255 is %#x, %d", f.Poly(), a, p, e)
			}
			for j := range 256 {
				b := byte(j)
				if f.Mul(a, b) != f.Mul(b, a) || gf.Add(a, b) != gf.Add(b, a) {
					t.Fatalf("of %#x: %#x and %#x don't commute", f.Poly(), a, b)
				}
			}
		}
	}
}

func TestLawsOfThree(t *testing.T) {
	for _, f := range fields(t) {
		step := 5 // every element of the standard field, of the others each fifth
		if f.Poly() == 0x11d {
			step = 1
		}
		for i := 0; i < 256; i += step {
			for j := 0; j < 256; j += step {
				for k := 0; k < 256; k += step {
					a, b, c := byte(i), byte(j), byte(k)
					if f.Mul(f.Mul(a, b), c) != f.Mul(a, f.Mul(b, c)) || f.Mul(a, gf.Add(b, c)) != gf.Add(f.Mul(a, b), f.Mul(a, c)) {
						t.Fatalf("of %#x: %#x, %#x and %#x", f.Poly(), a, b, c)
					}
				}
			}
		}
	}
}

func roots(f *gf.Field, poly []byte) int {
	n := 0
	for x := range 256 {
		if f.Eval(poly, byte(x)) == 0 {
			n++
		}
	}
	return n
}

// times is poly times (x + root).
func times(f *gf.Field, poly []byte, root byte) []byte {
	out := append([]byte{0}, poly...)
	f.AddMul(out[:len(poly)], root, poly)
	return out
}

func TestPolynomialsHaveFewRoots(t *testing.T) {
	for _, f := range fields(t) {
		for n := 1; n < 60; n++ {
			for seed := range 9 {
				poly := row(n, seed+1)
				poly[n-1] |= 1 // not all of them 0
				if r := roots(f, poly); r > n-1 {
					t.Errorf("of %#x: a polynomial of %d coefficients is 0 at %d elements", f.Poly(), n, r)
				}
			}
		}
		poly := []byte{1}
		for root := range 100 {
			if r := roots(f, poly); r != root {
				t.Fatalf("of %#x: the product of %d unlike factors is 0 at %d elements", f.Poly(), root, r)
			}
			poly = times(f, poly, byte(root))
		}
	}
}

func TestExamples(t *testing.T) {
	f := gf.Std()
	for _, x := range [][3]byte{{2, 0x80, 0x1d}, {3, 7, 9}, {0xff, 0xff, 0xe2}, {3, 3, 5}} {
		if got := f.Mul(x[0], x[1]); got != x[2] {
			t.Errorf("Mul(%#x, %#x) = %#x, want %#x", x[0], x[1], got, x[2])
		}
	}
	for _, x := range []struct {
		name string
		got  func() (byte, api.Errno)
		want byte
	}{
		{"Inv(2)", func() (byte, api.Errno) { return f.Inv(2) }, 0x8e},
		{"Inv(1)", func() (byte, api.Errno) { return f.Inv(1) }, 1},
		{"Div(1, 2)", func() (byte, api.Errno) { return f.Div(1, 2) }, 0x8e},
		{"Pow(2, 8)", func() (byte, api.Errno) { return f.Pow(2, 8) }, 0x1d},
		{"Pow(2, -1)", func() (byte, api.Errno) { return f.Pow(2, -1) }, 0x8e},
		{"Dot", func() (byte, api.Errno) { return f.Dot([]byte{1, 2}, []byte{3, 0x80}) }, 0x1e},
	} {
		if got, e := x.got(); got != x.want || e != api.OK {
			t.Errorf("%s: %#x, %d, want %#x", x.name, got, e, x.want)
		}
	}
	for i, want := range map[int]byte{0: 1, 1: 2, 8: 0x1d, 255: 1, -1: 0x8e} {
		if got := f.Exp(i); got != want {
			t.Errorf("Exp(%d) = %#x, want %#x", i, got, want)
		}
	}
	for a, want := range map[byte]int{1: 0, 2: 1, 0x8e: 254, 0x1d: 8} {
		if got, e := f.Log(a); got != want || e != api.OK {
			t.Errorf("Log(%#x) = %d, %d, want %d", a, got, e, want)
		}
	}
	dst := []byte{1, 2}
	if e := f.AddMul(dst, 2, []byte{0x80, 3}); e != api.OK || dst[0] != 0x1c || dst[1] != 4 {
		t.Errorf("AddMul: %x, %d", dst, e)
	}
	if y := f.Eval([]byte{1, 0, 1}, 3); y != 4 {
		t.Errorf("Eval((1, 0, 1), 3) = %#x", y)
	}
}

// Package gf: the fields of 256 elements: see DOC.md, chapter 1.
package gf

import "sherd/api"

const (
	stdPoly = 0x11d
	order   = 255 // elements but 0: as many as there are powers of 2
)

// Field is one of these fields: bytes as polynomials over the two-element field, modulo one of degree 8 for which the powers of 2 are all elements but 0.
type Field struct {
	poly int
	exp  [2 * order]byte // twice over, so that the sum of two logarithms needs no remainder
	log  [order + 1]byte // at 0 it has no meaning: 0 is no power
}

var std *Field

func init() {
	std, _ = New(stdPoly)
}

// New is the field of a polynomial, whose bits are its coefficients.
func New(poly int) (*Field, api.Errno) {
	if poly < 256 || poly > 511 {
		return nil, api.ErrPoly
	}
	f := &Field{poly: poly}
	power := 1
	for i := range order {
		if power == 1 && i > 0 { // the powers repeat too early to be all elements
			return nil, api.ErrPoly
		}
		f.exp[i] = byte(power)
		f.exp[i+order] = byte(power)
		f.log[power] = byte(i)
		power = double(power, poly)
	}
	if power != 1 { // they never come back to 1: 2 has no inverse
		return nil, api.ErrPoly
	}
	return f, api.OK
}

// double is 2 times an element, modulo the polynomial.
func double(a int, poly int) int {
	a <<= 1
	if a > 255 {
		a ^= poly
	}
	return a
}

// Std is a field of 0x11d. Each call hands out one of its own: who writes over it spoils nobody else's.
func Std() *Field {
	f := *std
	return &f
}

// Poly is the field's polynomial.
func (f *Field) Poly() int {
	if f == nil {
		return 0
	}
	return f.poly
}

// Add is the sum, and the difference, in every field.
func Add(a byte, b byte) byte { return a ^ b }

// Mul is the product.
func (f *Field) Mul(a byte, b byte) byte {
	if f == nil || a == 0 || b == 0 {
		return 0
	}
	return f.exp[int(f.log[a])+int(f.log[b])]
}

// Div is the quotient.
func (f *Field) Div(a byte, b byte) (byte, api.Errno) {
	if f == nil {
		return 0, api.OK
	}
	if b == 0 {
		return 0, api.ErrZero
	}
	return f.Mul(a, f.exp[order-int(f.log[b])]), api.OK
}

// Inv is the inverse.
func (f *Field) Inv(a byte) (byte, api.Errno) { return f.Div(1, a) }

// Pow is a power, e any number.
func (f *Field) Pow(a byte, e int) (byte, api.Errno) {
	if f == nil {
		return 0, api.OK
	}
	if a != 0 {
		return f.Exp(int(f.log[a]) * wrap(e)), api.OK
	}
	switch {
	case e < 0:
		return 0, api.ErrZero
	case e == 0:
		return 1, api.OK
	}
	return 0, api.OK
}

// Exp is a power of 2.
func (f *Field) Exp(i int) byte {
	if f == nil {
		return 0
	}
	return f.exp[wrap(i)]
}

// wrap takes an exponent to the one from 0 to 254 that gives the same powers. It never takes the opposite of e, which the least int has not.
func wrap(e int) int {
	e %= order
	if e < 0 {
		e += order
	}
	return e
}

// Log is the least number i of 0 and above with Exp(i) being a.
func (f *Field) Log(a byte) (int, api.Errno) {
	if f == nil {
		return 0, api.OK
	}
	if a == 0 {
		return 0, api.ErrZero
	}
	return int(f.log[a]), api.OK
}

// Dot is the sum of the products, place by place.
func (f *Field) Dot(a []byte, b []byte) (byte, api.Errno) {
	if f == nil {
		return 0, api.OK
	}
	if len(a) != len(b) {
		return 0, api.ErrShape
	}
	var sum byte
	for i := range a {
		sum = Add(sum, f.Mul(a[i], b[i]))
	}
	return sum, api.OK
}

// AddMul adds c times src to dst, place by place.
func (f *Field) AddMul(dst []byte, c byte, src []byte) api.Errno {
	if f == nil {
		return api.OK
	}
	if len(dst) != len(src) {
		return api.ErrShape
	}
	products := make([]byte, len(src)) // all ahead of the first sum: dst may lie over src
	for i, s := range src {
		products[i] = f.Mul(c, s)
	}
	for i, p := range products {
		dst[i] = Add(dst[i], p)
	}
	return api.OK
}

// Eval is a polynomial's value, its coefficients from the lowest on.
func (f *Field) Eval(poly []byte, x byte) byte {
	if f == nil {
		return 0
	}
	var y byte
	for i := len(poly) - 1; i >= 0; i-- {
		y = Add(f.Mul(y, x), poly[i])
	}
	return y
}

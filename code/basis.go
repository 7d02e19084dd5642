package code

import (
	"sync"

	"sherd/gf"
)

var guard sync.Mutex // held by whoever reads or writes generators

var generators = map[[2]int][][]byte{} // by n and k

// generator is the generator of n and k, made at the first asking. It is made with the lock held, so that two who ask at once make it once.
func generator(n int, k int) [][]byte {
	guard.Lock()
	defer guard.Unlock()
	key := [2]int{n, k}
	rows, ok := generators[key]
	if !ok {
		rows = newGenerator(n, k)
		generators[key] = rows
	}
	return rows
}

// newGenerator is the values at each point below n of the basis for the points below k.
func newGenerator(n int, k int) [][]byte {
	points := make([]byte, k)
	for i := range points {
		points[i] = byte(i)
	}
	b := newBasis(gf.Std(), points)
	rows := make([][]byte, n)
	for i := range rows {
		rows[i] = b.at(byte(i))
	}
	return rows
}

// basis is a polynomial for each of some unlike points, of a degree below their number, that is 1 at that point and 0 at the others.
type basis struct {
	field   *gf.Field
	points  []byte
	weights []byte // for each point, the inverse of the product of its distances from the others
}

func newBasis(field *gf.Field, points []byte) basis {
	weights := make([]byte, len(points))
	for i, point := range points {
		product := byte(1)
		for j, other := range points {
			if j != i {
				product = field.Mul(product, gf.Add(point, other))
			}
		}
		weights[i], _ = field.Inv(product)
	}
	return basis{field: field, points: points, weights: weights}
}

// at is the values of the polynomials at x, in the order of their points.
func (b basis) at(x byte) []byte {
	values := make([]byte, len(b.points))
	product := byte(1)
	for i, point := range b.points {
		if point == x { // no distance to divide by below; and the values here are known
			values[i] = 1
			return values
		}
		product = b.field.Mul(product, gf.Add(x, point))
	}
	for i, point := range b.points {
		others, _ := b.field.Div(product, gf.Add(x, point))
		values[i] = b.field.Mul(others, b.weights[i])
	}
	return values
}

package mend

import (
	"slices"

	"sherd/api"
	"sherd/gf"
	"sherd/matrix"
)

// finder finds the wrong ones among parts at one place. The bytes of right parts, each times its point's weight and a power of the point, add up to 0, as long as the power is below the number of parts to spare. So such sums hang on the errors alone, and the errors' points are the roots of the shortest recurrence that the sums keep.
type finder struct {
	field   *gf.Field
	points  []byte
	weights []byte         // for each point, the inverse of the product of its distances from the others
	powers  *matrix.Matrix // in row i power i of each point
}

// finding is which parts are wrong at a place, by their numbers in the list; sure is false where so few that they can be told don't explain it.
type finding struct {
	wrong []int
	sure  bool
}

// newFinder is for parts of unlike indexes, more than k.
func newFinder(parts []api.Part, k int) finder {
	points := make([]byte, len(parts))
	for i, part := range parts {
		points[i] = byte(part.Index)
	}
	field := gf.Std()
	weights := make([]byte, len(points))
	for i, point := range points {
		product := byte(1)
		for j, other := range points {
			if j != i {
				product = field.Mul(product, gf.Add(point, other))
			}
		}
		weights[i], _ = field.Inv(product)
	}
	powers, _ := matrix.Vandermonde(field, points, len(points)-k)
	return finder{field: field, points: points, weights: weights, powers: powers.Transpose()}
}

// try is what is found at a place.
func (f finder) try(parts []api.Part, place int) finding {
	column := make([]byte, len(parts))
	for i, part := range parts {
		column[i] = f.field.Mul(f.weights[i], part.Data[place])
	}
	sums, _ := f.powers.Apply(column)
	locator := shortest(f.field, sums)
	var wrong []int
	for i, point := range f.points {
		if f.field.Eval(locator, point) == 0 {
			wrong = append(wrong, i)
		}
	}
	return finding{wrong: wrong, sure: len(wrong) == len(locator)-1}
}

// shortest is the polynomial of least degree, its highest coefficient 1, whose coefficients, lowest first, times as many neighbouring sums add up to 0, wherever among the sums one begins. (The way is Berlekamp's and Massey's: the sums are taken in one by one; where the next is off, the polynomial that stood before the degree grew last is added, moved and multiplied so that it is off by as much just there and nowhere before.)
func shortest(field *gf.Field, sums []byte) []byte {
	now := []byte{1}                      // the highest first, until the end
	short, shortOff := []byte{1}, byte(1) // the one that stood before the degree grew last, and how far it was off then
	for n := range sums {
		var off byte
		for i, factor := range now {
			off = gf.Add(off, field.Mul(factor, sums[n-i]))
		}
		if off == 0 {
			continue
		}
		factor, _ := field.Div(off, shortOff)
		move := n + 3 - len(now) - len(short)
		next := make([]byte, max(len(now), move+len(short)))
		copy(next, now)
		field.AddMul(next[move:move+len(short)], factor, short)
		if len(next) > len(now) {
			short, shortOff = now, off
		}
		now = next
	}
	slices.Reverse(now)
	return now
}

package matrix

// Field is a Ring in which one can subtract, and divide by all but zero.
type Field[T any] interface {
	Ring[T]
	One() T
	Minus(T) T
	Over(T) T
}

// Interpolation gives the matrix that makes of a polynomial's values at the points from its values at the points to.
// The polynomial's degree is below the number of the points from, of which no two may be the same.
func Interpolation[T Field[T]](from []T, to []T) Matrix[T] {
	scales := lagrangeScales(from)
	rows := make(Matrix[T], len(to))
	for i, point := range to {
		rows[i] = productsOfOthers(differences(point, from))
		for j := range rows[i] {
			rows[i][j] = rows[i][j].Times(scales[j])
		}
	}
	return rows
}

// lagrangeScales gives for each point what brings its polynomial, which is zero at all other points, to one at it.
func lagrangeScales[T Field[T]](points []T) []T {
	scales := make([]T, len(points))
	for i, point := range points {
		height := point.One()
		for j, other := range points {
			if j != i {
				height = height.Times(point.Minus(other))
			}
		}
		scales[i] = point.One().Over(height)
	}
	return scales
}

func differences[T Field[T]](point T, others []T) []T {
	list := make([]T, len(others))
	for i, other := range others {
		list[i] = point.Minus(other)
	}
	return list
}

// productsOfOthers gives for each factor the product of all but it.
// It multiplies what is ahead of the factor and what is behind it: to divide by the factor would fail at zero.
func productsOfOthers[T Field[T]](factors []T) []T {
	products := make([]T, len(factors))
	var number T
	ahead := number.One()
	for i, factor := range factors {
		products[i] = ahead
		ahead = ahead.Times(factor)
	}
	behind := number.One()
	for i := len(factors) - 1; i >= 0; i-- {
		products[i] = products[i].Times(behind)
		behind = behind.Times(factors[i])
	}
	return products
}

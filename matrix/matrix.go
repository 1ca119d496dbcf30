// Package matrix has matrices over whatever can be added and multiplied.
package matrix

// Ring is what the numbers of a matrix can do. The zero value of T must be the number that changes no sum.
type Ring[T any] interface {
	Plus(T) T
	Times(T) T
}

// Matrix is a list of rows, all of one length.
type Matrix[T Ring[T]] [][]T

// Times gives the product. The other matrix must have as many rows as this one has columns.
func (m Matrix[T]) Times(other Matrix[T]) Matrix[T] {
	product := make(Matrix[T], len(m))
	for i, row := range m {
		product[i] = other.weighted(row)
	}
	return product
}

// weighted gives the sum of the rows, each times its weight.
func (m Matrix[T]) weighted(weights []T) []T {
	sum := make([]T, m.width())
	for i, row := range m {
		for j, number := range row {
			sum[j] = sum[j].Plus(weights[i].Times(number))
		}
	}
	return sum
}

func (m Matrix[T]) width() int {
	if len(m) == 0 {
		return 0
	}
	return len(m[0])
}

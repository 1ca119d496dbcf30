package matrix

import (
	"slices"
	"testing"
)

// whole: the whole numbers, which can't be divided.
type whole int

func (a whole) Plus(b whole) whole  { return a + b }
func (a whole) Times(b whole) whole { return a * b }

// hour: the numbers modulo 13, a field in which a number and its negative are two.
type hour int

func (a hour) One() hour         { return 1 }
func (a hour) Plus(b hour) hour  { return (a + b) % 13 }
func (a hour) Minus(b hour) hour { return (a + 13 - b) % 13 }
func (a hour) Times(b hour) hour { return a * b % 13 }

func (a hour) Over(b hour) hour {
	for q := range hour(13) {
		if q*b%13 == a {
			return q
		}
	}
	return 0
}

func same[T interface {
	comparable
	Ring[T]
}](a, b Matrix[T]) bool {
	return slices.EqualFunc(a, b, func(x, y []T) bool { return slices.Equal(x, y) })
}

func TestTimes(t *testing.T) {
	for _, c := range []struct{ a, b, want Matrix[whole] }{
		{Matrix[whole]{{2}}, Matrix[whole]{{-3}}, Matrix[whole]{{-6}}},
		{Matrix[whole]{{1, 2}, {3, 4}}, Matrix[whole]{{5, 6, 7}, {8, 9, 10}}, Matrix[whole]{{21, 24, 27}, {47, 54, 61}}},
		{Matrix[whole]{{1, 2}}, Matrix[whole]{{3}, {4}}, Matrix[whole]{{11}}},
		{Matrix[whole]{{3}, {4}}, Matrix[whole]{{1, 2}}, Matrix[whole]{{3, 6}, {4, 8}}},
		{Matrix[whole]{{1, 2}}, Matrix[whole]{{}, {}}, Matrix[whole]{{}}},
		{Matrix[whole]{}, Matrix[whole]{{1}}, Matrix[whole]{}},
		{Matrix[whole]{{}, {}}, Matrix[whole]{}, Matrix[whole]{{}, {}}},
	} {
		if p := c.a.Times(c.b); !same(p, c.want) {
			t.Errorf("%v times %v = %v, want %v", c.a, c.b, p, c.want)
		}
	}
}

func TestTimesIsNew(t *testing.T) {
	a, b := Matrix[whole]{{1, 0}, {0, 1}}, Matrix[whole]{{5, 6}, {7, 8}}
	p := a.Times(b)
	for _, row := range p {
		clear(row[:cap(row)])
	}
	if !same(a, Matrix[whole]{{1, 0}, {0, 1}}) || !same(b, Matrix[whole]{{5, 6}, {7, 8}}) {
		t.Errorf("writing into the product changed its factors: %v, %v", a, b)
	}
}

// at: the value of the polynomial with these coefficients, the lowest first.
func at(coefficients []hour, x hour) hour {
	sum := hour(0)
	for i := len(coefficients) - 1; i >= 0; i-- {
		sum = sum.Times(x).Plus(coefficients[i])
	}
	return sum
}

func column(coefficients, points []hour) Matrix[hour] {
	list := Matrix[hour]{}
	for _, x := range points {
		list = append(list, []hour{at(coefficients, x)})
	}
	return list
}

func TestInterpolation(t *testing.T) {
	everywhere := []hour{0, 1, 2, 3, 4, 5, 6, 7, 8, 9, 10, 11, 12}
	for _, c := range []struct{ coefficients, from []hour }{
		{[]hour{7}, []hour{4}},
		{[]hour{3, 5}, []hour{0, 1}},
		{[]hour{3, 5}, []hour{12, 2}},
		{[]hour{0, 0, 1}, []hour{1, 5, 7}},
		{[]hour{1, 2, 3, 4, 5, 6}, []hour{11, 0, 3, 8, 2, 5}},
		{[]hour{1, 1, 1, 1, 1, 1, 1, 1, 1, 1, 1, 1, 9}, everywhere},
	} {
		values := Interpolation(c.from, everywhere).Times(column(c.coefficients, c.from))
		if want := column(c.coefficients, everywhere); !same(values, want) {
			t.Errorf("the polynomial %v from its values at %v: %v, want %v", c.coefficients, c.from, values, want)
		}
	}
	if m := Interpolation([]hour{1, 2}, nil); len(m) != 0 {
		t.Errorf("to no points: %v", m)
	}
}

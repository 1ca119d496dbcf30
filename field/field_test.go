package field

import "testing"

// slowProduct multiplies as polynomials first, and takes 285 out afterwards.
func slowProduct(a, b int) int {
	product := 0
	for i := range 8 {
		if b>>i&1 == 1 {
			product ^= a << i
		}
	}
	for i := 14; i >= 8; i-- {
		if product>>i&1 == 1 {
			product ^= 285 << (i - 8)
		}
	}
	return product
}

func TestSums(t *testing.T) {
	for a := range 256 {
		for b := range 256 {
			x, y := Number(a), Number(b)
			if x.Plus(y) != Number(a^b) {
				t.Fatalf("%d + %d = %d", a, b, x.Plus(y))
			}
			if x.Plus(y).Minus(y) != x {
				t.Fatalf("%d + %d - %d = %d", a, b, b, x.Plus(y).Minus(y))
			}
		}
	}
}

func TestProducts(t *testing.T) {
	if p := Number(2).Times(128); p != 29 {
		t.Errorf("2 times 128 = %d, want 29", p)
	}
	for a := range 256 {
		for b := range 256 {
			if p := Number(a).Times(Number(b)); int(p) != slowProduct(a, b) {
				t.Fatalf("%d times %d = %d, want %d", a, b, p, slowProduct(a, b))
			}
		}
	}
}

func TestQuotients(t *testing.T) {
	for a := range 256 {
		x := Number(a)
		if x.Times(x.One()) != x {
			t.Fatalf("%d times one = %d", a, x.Times(x.One()))
		}
		if q := x.Over(0); q != 0 {
			t.Fatalf("%d over 0 = %d, want 0", a, q)
		}
		for b := 1; b < 256; b++ {
			if q := x.Over(Number(b)); q.Times(Number(b)) != x {
				t.Fatalf("%d over %d = %d", a, b, q)
			}
		}
	}
}

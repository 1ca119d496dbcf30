// Package field has the numbers 0 to 255 with the sums and products of DOC.md, section Words.
package field

// Number is a number of the field.
type Number uint8

// fold is what x to the 8 comes to: 285 without its highest bit, which a Number has no room for.
const fold Number = 285 - 256

// One gives the number that changes no product.
func (a Number) One() Number { return 1 }

// Plus gives the sum.
func (a Number) Plus(b Number) Number { return a ^ b }

// Minus gives the difference. Each number is its own negative, so it is the sum again.
func (a Number) Minus(b Number) Number { return a ^ b }

// Times gives the product.
func (a Number) Times(b Number) Number {
	product := Number(0)
	for range 8 {
		// -1 wraps round to all bits: a mask in place of a branch, which random bytes would make slow.
		product ^= a & -(b & 1)
		a = a<<1 ^ fold&-(a>>7)
		b >>= 1
	}
	return product
}

// Over gives the quotient. That by 0, which there is not, is told as 0.
func (a Number) Over(b Number) Number { return a.Times(b.inverse()) }

// inverse is the power 254: the power 255 of each number but 0 is 1.
func (a Number) inverse() Number {
	power, inverse := a, Number(1)
	for range 7 {
		power = power.Times(power)
		inverse = inverse.Times(power)
	}
	return inverse
}

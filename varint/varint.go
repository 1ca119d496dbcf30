// Package varint writes numbers in as few bytes as they need, and reads them.
package varint

import "math"

const (
	low     = 7    // bits of the number in each byte
	more    = 0x80 // added to each byte behind which another one follows
	longest = 5    // bytes
)

// Of gives the varint of a number.
func Of(number uint32) string {
	var told []byte
	for number >= more {
		told = append(told, byte(number)|more)
		number >>= low
	}
	return string(append(told, byte(number)))
}

// Read gives the number whose varint stands at the beginning of a text, and that varint's length: 0, if none stands there.
func Read[T ~string | ~[]byte](text T) (number uint32, length int) {
	// More bits than the number may have, so that one that is too great is seen.
	sum := uint64(0)
	for i := range min(len(text), longest) {
		part := text[i]
		sum |= uint64(part&^more) << (low * i)
		if part >= more {
			continue
		}
		// A last byte of 0 could be left out, unless it is the only one.
		if sum > math.MaxUint32 || part == 0 && i > 0 {
			return 0, 0
		}
		return uint32(sum), i + 1
	}
	return 0, 0
}

// Package varint writes numbers in as few bytes as they need.
package varint

const (
	low  = 7    // bits of the number in each byte
	more = 0x80 // added to each byte behind which another one follows
)

// Of gives the varint of a number.
func Of(number uint32) string {
	var told []byte
	for number >= more {
		told = append(told, byte(number)|more)
		number >>= low
	}
	return string(append(told, byte(number)))
}

// Package digest has SHA-256 (FIPS 180-4).
package digest

import "math/bits"

// Size is how many bytes a digest has.
const Size = 32

const (
	blockSize  = 64 // bytes that are mixed in at once
	lengthSize = 8  // bytes in which the padding tells the text's length
)

// roundWords: of the cube roots of the first 64 primes, the first 32 bits behind the point.
var roundWords = [64]uint32{
	0x428a2f98, 0x71374491, 0xb5c0fbcf, 0xe9b5dba5, 0x3956c25b, 0x59f111f1, 0x923f82a4, 0xab1c5ed5,
	0xd807aa98, 0x12835b01, 0x243185be, 0x550c7dc3, 0x72be5d74, 0x80deb1fe, 0x9bdc06a7, 0xc19bf174,
	0xe49b69c1, 0xefbe4786, 0x0fc19dc6, 0x240ca1cc, 0x2de92c6f, 0x4a7484aa, 0x5cb0a9dc, 0x76f988da,
	0x983e5152, 0xa831c66d, 0xb00327c8, 0xbf597fc7, 0xc6e00bf3, 0xd5a79147, 0x06ca6351, 0x14292967,
	0x27b70a85, 0x2e1b2138, 0x4d2c6dfc, 0x53380d13, 0x650a7354, 0x766a0abb, 0x81c2c92e, 0x92722c85,
	0xa2bfe8a1, 0xa81a664b, 0xc24b8b70, 0xc76c51a3, 0xd192e819, 0xd6990624, 0xf40e3585, 0x106aa070,
	0x19a4c116, 0x1e376c08, 0x2748774c, 0x34b0bcb5, 0x391c0cb3, 0x4ed8aa4a, 0x5b9cca4f, 0x682e6ff3,
	0x748f82ee, 0x78a5636f, 0x84c87814, 0x8cc70208, 0x90befffa, 0xa4506ceb, 0xbef9a3f7, 0xc67178f2,
}

// Of gives the digest of a text.
func Of(text string) string {
	// Of the square roots of the first 8 primes, the first 32 bits behind the point.
	state := [8]uint32{
		0x6a09e667, 0xbb67ae85, 0x3c6ef372, 0xa54ff53a, 0x510e527f, 0x9b05688c, 0x1f83d9ab, 0x5be0cd19,
	}
	whole := len(text) - len(text)%blockSize
	// The padding is laid behind the rest alone, so that a long text is not copied.
	state = mixAll(state, text[:whole])
	state = mixAll(state, padded(text[whole:], len(text)))
	return told(state)
}

// padded lays behind the rest of a text of that length a bit 1, bits 0 and the number of its bits.
func padded(rest string, length int) string {
	size := blockSize
	if len(rest)+1+lengthSize > blockSize {
		size = 2 * blockSize
	}
	padding := make([]byte, size)
	copy(padding, rest)
	padding[len(rest)] = 0x80
	count := uint64(length) * 8
	for i := range lengthSize {
		padding[size-1-i] = byte(count >> (8 * i))
	}
	return string(padding)
}

func mixAll(state [8]uint32, blocks string) [8]uint32 {
	for at := 0; at < len(blocks); at += blockSize {
		state = mix(state, blocks[at:at+blockSize])
	}
	return state
}

func mix(state [8]uint32, block string) [8]uint32 {
	words := schedule(block)
	a, b, c, d := state[0], state[1], state[2], state[3]
	e, f, g, h := state[4], state[5], state[6], state[7]
	for i, word := range words {
		turned := bits.RotateLeft32(e, -6) ^ bits.RotateLeft32(e, -11) ^ bits.RotateLeft32(e, -25)
		chosen := e&f ^ ^e&g
		first := h + turned + chosen + roundWords[i] + word
		turned = bits.RotateLeft32(a, -2) ^ bits.RotateLeft32(a, -13) ^ bits.RotateLeft32(a, -22)
		most := a&b ^ a&c ^ b&c
		a, b, c, d, e, f, g, h = first+turned+most, a, b, c, d+first, e, f, g
	}
	mixed := [8]uint32{a, b, c, d, e, f, g, h}
	for i := range state {
		mixed[i] += state[i]
	}
	return mixed
}

// schedule gives the word of each round.
func schedule(block string) [64]uint32 {
	var words [64]uint32
	for i := range 16 {
		words[i] = uint32(block[4*i])<<24 | uint32(block[4*i+1])<<16 | uint32(block[4*i+2])<<8 | uint32(block[4*i+3])
	}
	for i := 16; i < len(words); i++ {
		early, late := words[i-15], words[i-2]
		early = bits.RotateLeft32(early, -7) ^ bits.RotateLeft32(early, -18) ^ early>>3
		late = bits.RotateLeft32(late, -17) ^ bits.RotateLeft32(late, -19) ^ late>>10
		words[i] = words[i-16] + early + words[i-7] + late
	}
	return words
}

func told(state [8]uint32) string {
	digest := make([]byte, 0, Size)
	for _, word := range state {
		digest = append(digest, byte(word>>24), byte(word>>16), byte(word>>8), byte(word))
	}
	return string(digest)
}

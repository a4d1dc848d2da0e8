// Package mark: the marks by which a text is known: its hash, its tag under a key, its check.
package mark

import "math/bits"

// Size is how many bytes a hash and a tag have.
const Size = 32

const (
	blockSize  = 64 // bytes that are mixed in at a time
	lengthSize = 8  // bytes of the length behind the last block's padding
	rounds     = 64
)

// FIPS 180-4, 5.3.3.
var firstState = [8]uint32{
	0x6a09e667, 0xbb67ae85, 0x3c6ef372, 0xa54ff53a, 0x510e527f, 0x9b05688c, 0x1f83d9ab, 0x5be0cd19,
}

// FIPS 180-4, 4.2.2.
var roundWords = [rounds]uint32{
	0x428a2f98, 0x71374491, 0xb5c0fbcf, 0xe9b5dba5, 0x3956c25b, 0x59f111f1, 0x923f82a4, 0xab1c5ed5,
	0xd807aa98, 0x12835b01, 0x243185be, 0x550c7dc3, 0x72be5d74, 0x80deb1fe, 0x9bdc06a7, 0xc19bf174,
	0xe49b69c1, 0xefbe4786, 0x0fc19dc6, 0x240ca1cc, 0x2de92c6f, 0x4a7484aa, 0x5cb0a9dc, 0x76f988da,
	0x983e5152, 0xa831c66d, 0xb00327c8, 0xbf597fc7, 0xc6e00bf3, 0xd5a79147, 0x06ca6351, 0x14292967,
	0x27b70a85, 0x2e1b2138, 0x4d2c6dfc, 0x53380d13, 0x650a7354, 0x766a0abb, 0x81c2c92e, 0x92722c85,
	0xa2bfe8a1, 0xa81a664b, 0xc24b8b70, 0xc76c51a3, 0xd192e819, 0xd6990624, 0xf40e3585, 0x106aa070,
	0x19a4c116, 0x1e376c08, 0x2748774c, 0x34b0bcb5, 0x391c0cb3, 0x4ed8aa4a, 0x5b9cca4f, 0x682e6ff3,
	0x748f82ee, 0x78a5636f, 0x84c87814, 0x8cc70208, 0x90befffa, 0xa4506ceb, 0xbef9a3f7, 0xc67178f2,
}

// Hash tells the SHA-256 of a text.
func Hash(text string) [Size]byte {
	return finish(firstState, text, 0)
}

// finish hashes a text that stands behind whole blocks already mixed into the state,
// so that a tag needs no copy of its text behind its key.
func finish(state [8]uint32, text string, before int) [Size]byte {
	whole := len(text) - len(text)%blockSize
	state = mixAll(state, text[:whole])
	state = mixAll(state, lastBlocks(text[whole:], uint64(before)+uint64(len(text))))
	return stateBytes(state)
}

// lastBlocks pads the rest of a text of so many bytes in all to whole blocks.
func lastBlocks(rest string, length uint64) string {
	size := blockSize
	if len(rest)+1+lengthSize > blockSize {
		size = 2 * blockSize
	}
	padded := make([]byte, size)
	copy(padded, rest)
	padded[len(rest)] = 0x80
	inBits := length * 8
	for i := range lengthSize {
		padded[size-1-i] = byte(inBits >> (8 * i))
	}
	return string(padded)
}

func mixAll(state [8]uint32, blocks string) [8]uint32 {
	for at := 0; at < len(blocks); at += blockSize {
		state = mix(state, blocks[at:at+blockSize])
	}
	return state
}

// FIPS 180-4, 6.2.2.
func mix(state [8]uint32, block string) [8]uint32 {
	words := schedule(block)
	a, b, c, d := state[0], state[1], state[2], state[3]
	e, f, g, h := state[4], state[5], state[6], state[7]
	for i := range rounds {
		choice := (e & f) ^ (^e & g)
		majority := (a & b) ^ (a & c) ^ (b & c)
		first := h + bigSigma1(e) + choice + roundWords[i] + words[i]
		second := bigSigma0(a) + majority
		h, g, f, e = g, f, e, d+first
		d, c, b, a = c, b, a, first+second
	}
	return [8]uint32{
		state[0] + a, state[1] + b, state[2] + c, state[3] + d,
		state[4] + e, state[5] + f, state[6] + g, state[7] + h,
	}
}

func schedule(block string) [rounds]uint32 {
	var words [rounds]uint32
	for i := range 16 {
		words[i] = uint32(block[4*i])<<24 | uint32(block[4*i+1])<<16 | uint32(block[4*i+2])<<8 | uint32(block[4*i+3])
	}
	for i := 16; i < rounds; i++ {
		words[i] = smallSigma1(words[i-2]) + words[i-7] + smallSigma0(words[i-15]) + words[i-16]
	}
	return words
}

// The library turns to the left alone: a negative count turns to the right.

func bigSigma0(x uint32) uint32 {
	return bits.RotateLeft32(x, -2) ^ bits.RotateLeft32(x, -13) ^ bits.RotateLeft32(x, -22)
}

func bigSigma1(x uint32) uint32 {
	return bits.RotateLeft32(x, -6) ^ bits.RotateLeft32(x, -11) ^ bits.RotateLeft32(x, -25)
}

func smallSigma0(x uint32) uint32 {
	return bits.RotateLeft32(x, -7) ^ bits.RotateLeft32(x, -18) ^ x>>3
}

func smallSigma1(x uint32) uint32 {
	return bits.RotateLeft32(x, -17) ^ bits.RotateLeft32(x, -19) ^ x>>10
}

func stateBytes(state [8]uint32) [Size]byte {
	var out [Size]byte
	for i := range Size {
		out[i] = byte(state[i/4] >> (24 - 8*(i%4)))
	}
	return out
}

const hexDigits = "0123456789abcdef"

// Digits tells the bytes of a hash or a tag as hexadecimal digits.
func Digits(sum [Size]byte) string {
	out := make([]byte, 0, 2*Size)
	for _, b := range sum {
		out = append(out, hexDigits[b>>4], hexDigits[b&15])
	}
	return string(out)
}

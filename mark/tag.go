package mark

// RFC 2104, 2: what the key is xored with for the inner and for the outer hash.
const (
	innerPad = 0x36
	outerPad = 0x5c
)

// Tag tells the HMAC-SHA-256 of a text under a key.
func Tag(key string, text string) [Size]byte {
	key = shortKey(key)
	inner := hashBehind(keyBlock(key, innerPad), text)
	return hashBehind(keyBlock(key, outerPad), string(inner[:]))
}

// shortKey makes a key fit into a block: a longer one is its hash.
func shortKey(key string) string {
	if len(key) <= blockSize {
		return key
	}
	sum := Hash(key)
	return string(sum[:])
}

func keyBlock(key string, pad byte) string {
	block := make([]byte, blockSize)
	copy(block, key)
	for i := range block {
		block[i] ^= pad
	}
	return string(block)
}

// hashBehind tells the hash of a block with the text behind it.
func hashBehind(block string, text string) [Size]byte {
	return finish(mix(firstState, block), text, blockSize)
}

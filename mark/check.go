package mark

const (
	allOnes   = 1<<32 - 1
	remainder = 3988292384
)

// Check tells the CRC-32 of a text.
func Check(text string) uint32 {
	check := uint32(allOnes)
	for i := range len(text) {
		check = checkByte(check, text[i])
	}
	return check ^ allOnes
}

func checkByte(check uint32, b byte) uint32 {
	check ^= uint32(b)
	for range 8 {
		odd := check&1 == 1
		check >>= 1
		if odd {
			check ^= remainder
		}
	}
	return check
}

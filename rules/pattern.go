package rules

const (
	anyBytes = '*'
	anyByte  = '?'
)

// fits tells whether a pattern fits a key. Only the last '*' that was met is tried with one byte more: those ahead of it stand for as little as they can, which leaves the most to what comes behind. So the steps grow no faster than the product of the two lengths.
func fits(pattern string, key string) bool {
	p, k := 0, 0
	behindStar, tried := -1, 0
	for k < len(key) {
		switch {
		case p < len(pattern) && pattern[p] == anyBytes:
			p++
			behindStar, tried = p, k
		case p < len(pattern) && (pattern[p] == anyByte || pattern[p] == key[k]):
			p++
			k++
		case behindStar >= 0:
			tried++
			p, k = behindStar, tried
		default:
			return false
		}
	}
	return isEmptyOrStars(pattern[p:])
}

func isEmptyOrStars(pattern string) bool {
	for i := range len(pattern) {
		if pattern[i] != anyBytes {
			return false
		}
	}
	return true
}

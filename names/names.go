// Package names: what may be the name of a user, of a bucket, and a key.
package names

import "larder/api"

const (
	minBucket = 3
	maxBucket = 20
)

// IsUser tells whether a text may be a user's name.
func IsUser(text string) bool {
	return isLong(text, 1, api.MaxName) && isOf(text, isLetterOrDigit)
}

// IsBucket tells whether a text may be a bucket's name.
func IsBucket(text string) bool {
	return isLong(text, minBucket, maxBucket) && isOf(text, func(b byte) bool {
		return isLetterOrDigit(b) || b == '-'
	})
}

// IsKey tells whether a text may be a key.
func IsKey(text string) bool {
	return isLong(text, 1, api.MaxKey) && isOf(text, func(b byte) bool {
		return 32 <= b && b <= 126
	})
}

func isLong(text string, least int, most int) bool {
	return least <= len(text) && len(text) <= most
}

// isOf tells whether each byte of a text is right.
func isOf(text string, isRight func(b byte) bool) bool {
	for i := range len(text) {
		if !isRight(text[i]) {
			return false
		}
	}
	return true
}

func isLetterOrDigit(b byte) bool {
	return 'a' <= b && b <= 'z' || '0' <= b && b <= '9'
}

package proof

import (
	"strconv"

	"larder/api"
	"larder/mark"
)

const (
	scheme  = "L1"
	purpose = "larder"
	day     = 86400 // seconds
)

// Sign tells the signature of a canonical form under a secret, at a second.
func Sign(secret string, second int, canon string) (string, api.Errno) {
	if second < 0 || second > api.MaxClock {
		return "", api.ErrNumber
	}
	if secret == "" || len(secret) > api.MaxSecret {
		return "", api.ErrLong
	}
	date := strconv.Itoa(second / day)
	text := scheme + "\n" + strconv.Itoa(second) + "\n" + date + "\n" + mark.Digits(mark.Hash(canon))
	return mark.Digits(mark.Tag(keyOfDay(secret, date), text)), api.OK
}

// keyOfDay makes the key that signs on one day: it tells nothing of the secret, nor of another day's key.
func keyOfDay(secret string, date string) string {
	first := mark.Tag(scheme+secret, date)
	second := mark.Tag(string(first[:]), purpose)
	return string(second[:])
}

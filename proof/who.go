package proof

import (
	"strings"

	"larder/answer"
	"larder/api"
	"larder/numeral"
	"larder/request"
)

// claim is what a request says of who signed it.
type claim struct {
	user, list, signature string
	second                int // at which it was signed
	last                  int // until which it is in time, with this one
}

// Who tells which of the users signed a request: a refusal, if none did, or it is not in time.
func Who(parts api.Request, users []api.User, clock int) (string, error) {
	c, claimed := readClaim(parts)
	if !claimed || clock < c.second-api.Skew || clock > c.last {
		return "", answer.Refuse(answer.No, nil)
	}
	canon, errno := Canon(parts, c.list)
	if errno != api.OK {
		return "", answer.Refuse(answer.No, answer.Fault(errno))
	}
	for _, user := range users {
		if user.Name == c.user && c.isSignedUnder(user.Secret, canon) {
			return user.Name, nil
		}
	}
	return "", answer.Refuse(answer.No, nil)
}

func (c claim) isSignedUnder(secret string, canon string) bool {
	signature, errno := Sign(secret, c.second, canon)
	return errno == api.OK && signature == c.signature
}

// readClaim tells what a request claims, by header or by query, and whether it claims anything.
func readClaim(parts api.Request) (claim, bool) {
	header, byHeader := request.Find(parts.Headers, headerOfProof)
	pairs := pairsOfClaim(parts.Query)
	switch {
	case byHeader && len(pairs) == 0:
		return readHeader(header)
	case !byHeader:
		return readPairs(pairs)
	}
	return claim{}, false
}

func pairsOfClaim(query []api.Pair) []api.Pair {
	var pairs []api.Pair
	for _, pair := range query {
		if strings.HasPrefix(pair.Name, Prefix) {
			pairs = append(pairs, pair)
		}
	}
	return pairs
}

func readHeader(value string) (claim, bool) {
	// The list may be empty: so one space parts, not any number of them.
	words := strings.Split(value, " ")
	if len(words) != 5 || words[0] != scheme {
		return claim{}, false
	}
	second, told := numeral.Read(words[2], 0, api.MaxClock)
	c := claim{user: words[1], second: second, last: second + api.Skew, list: words[3], signature: words[4]}
	return c, told
}

// readPairs finds five names among five pairs: so there is no other.
func readPairs(pairs []api.Pair) (claim, bool) {
	user, hasUser := request.Find(pairs, "x-user")
	second, hasSecond := findNumber(pairs, "x-time", 0, api.MaxClock)
	length, hasLength := findNumber(pairs, "x-for", 1, api.MaxFor)
	list, hasList := request.Find(pairs, "x-list")
	signature, hasSignature := request.Find(pairs, pairOfProof)
	hasAll := hasUser && hasSecond && hasLength && hasList && hasSignature
	c := claim{user: user, second: second, last: second + length - 1, list: list, signature: signature}
	return c, hasAll && len(pairs) == 5
}

func findNumber(pairs []api.Pair, name string, least int, most int) (int, bool) {
	text, _ := request.Find(pairs, name) // if there is none, the text is empty, and no number
	return numeral.Read(text, least, most)
}

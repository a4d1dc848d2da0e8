// Package proof: what a request is signed over, and the signature.
package proof

import (
	"slices"
	"strings"

	"larder/api"
	"larder/code"
	"larder/mark"
	"larder/request"
)

// Prefix is what the names of a query's pairs begin with that say who signs, and those of headers that must be signed.
const Prefix = "x-"

const (
	headerOfProof = "auth"  // carries the signature, so is not signed
	pairOfProof   = "x-sig" // the same, in a query
)

// Canon tells the canonical form of a request for a list of names: ErrForm, if there is none.
func Canon(parts api.Request, list string) (string, api.Errno) {
	signed, ok := pickSigned(parts.Headers, list)
	if !ok || missesOne(parts.Headers, signed) {
		return "", api.ErrForm
	}
	lines := []string{parts.Method, code.Encode(parts.Path, true), canonQuery(parts.Query)}
	for _, header := range signed {
		lines = append(lines, header.Name+":"+header.Value)
	}
	lines = append(lines, "", list, mark.Digits(mark.Hash(parts.Body)))
	return strings.Join(lines, "\n"), api.OK
}

// pickSigned picks the headers that a list names, and tells whether the list may be.
func pickSigned(headers []api.Pair, list string) ([]api.Pair, bool) {
	var signed []api.Pair
	last := "" // below every header's name
	for more := list != ""; more; {
		var name string
		name, list, more = strings.Cut(list, ";")
		value, there := request.Find(headers, name)
		if !there || name <= last || name == headerOfProof {
			return nil, false
		}
		signed = append(signed, api.Pair{Name: name, Value: value})
		last = name
	}
	return signed, true
}

// missesOne tells whether a header that must be signed is not.
func missesOne(headers []api.Pair, signed []api.Pair) bool {
	for _, header := range headers {
		_, there := request.Find(signed, header.Name)
		if !there && mustBeSigned(header.Name) {
			return true
		}
	}
	return false
}

func mustBeSigned(name string) bool {
	return name == "host" || name == "length" || strings.HasPrefix(name, Prefix)
}

// canonQuery sorts the pairs by their codes, the sign between name and value among them.
func canonQuery(query []api.Pair) string {
	var pairs []string
	for _, pair := range query {
		if pair.Name != pairOfProof {
			pairs = append(pairs, code.Encode(pair.Name, false)+"="+code.Encode(pair.Value, false))
		}
	}
	slices.Sort(pairs)
	return strings.Join(pairs, "&")
}

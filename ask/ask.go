// Package ask: what a request asks for.
package ask

import (
	"slices"
	"strings"

	"larder/answer"
	"larder/api"
	"larder/names"
	"larder/numeral"
	"larder/proof"
)

// Kind is one of the things that may be asked for.
type Kind int

const (
	MakeBucket Kind = iota
	PutPolicy
	GetPolicy
	DeletePolicy
	List
	Put
	Get
	Delete
	DeleteVersion
)

// Ask is what a request asks for.
type Ask struct {
	Kind          Kind
	Action        string // as a policy names it
	Bucket, Key   string
	Body          string
	Version       int // 0: the latest
	Prefix, After string
	Max           int
}

const (
	ofBucket = false
	ofKey    = true

	maxVersion = 999999999
)

// row says which request asks for a kind. Its query has no other pairs than these, and at least so many.
type row struct {
	method  string
	path    bool
	pairs   [3]string
	least   int
	kind    Kind
	action  string
	hasBody bool // the body may be other than empty
}

var rows = [...]row{
	{"PUT", ofBucket, [3]string{}, 0, MakeBucket, "", false},
	{"PUT", ofBucket, [3]string{"policy"}, 1, PutPolicy, "policy", true},
	{"GET", ofBucket, [3]string{"policy"}, 1, GetPolicy, "policy", false},
	{"DELETE", ofBucket, [3]string{"policy"}, 1, DeletePolicy, "policy", false},
	{"GET", ofBucket, [3]string{"prefix", "after", "max"}, 0, List, "list", false},
	{"PUT", ofKey, [3]string{}, 0, Put, "put", true},
	{"GET", ofKey, [3]string{"version"}, 0, Get, "get", false},
	{"DELETE", ofKey, [3]string{}, 0, Delete, "delete", false},
	{"DELETE", ofKey, [3]string{"version"}, 1, DeleteVersion, "delete", false},
}

// Read tells what a request asks for: a refusal, if that is nothing that there is.
func Read(parts api.Request) (Ask, error) {
	bucket, key, path := strings.Cut(strings.TrimPrefix(parts.Path, "/"), "/")
	pairs := pairsOfAsk(parts.Query)
	row, found := findRow(parts.Method, path, pairs)
	ask := Ask{
		Kind: row.kind, Action: row.action, Bucket: bucket, Key: key, Max: api.Page,
		// A copy, so that who keeps it does not keep the whole request.
		Body: strings.Clone(parts.Body),
	}
	right := found && names.IsBucket(bucket) && (path == ofBucket || names.IsKey(key)) &&
		(row.hasBody || parts.Body == "") && ask.readPairs(pairs)
	if !right {
		return Ask{}, answer.Refuse(answer.Bad, nil)
	}
	return ask, nil
}

// pairsOfAsk leaves out the pairs that say who signs.
func pairsOfAsk(query []api.Pair) []api.Pair {
	var pairs []api.Pair
	for _, pair := range query {
		if !strings.HasPrefix(pair.Name, proof.Prefix) {
			pairs = append(pairs, pair)
		}
	}
	return pairs
}

func findRow(method string, path bool, pairs []api.Pair) (row, bool) {
	for _, r := range rows {
		if r.method == method && r.path == path && r.takes(pairs) {
			return r, true
		}
	}
	return row{}, false
}

func (r row) takes(pairs []api.Pair) bool {
	for _, pair := range pairs {
		if !slices.Contains(r.pairs[:], pair.Name) {
			return false
		}
	}
	return len(pairs) >= r.least
}

// readPairs tells whether the values of all pairs may be.
func (a *Ask) readPairs(pairs []api.Pair) bool {
	for _, pair := range pairs {
		if !a.readPair(pair) {
			return false
		}
	}
	return true
}

func (a *Ask) readPair(pair api.Pair) bool {
	right := true
	switch pair.Name {
	case "policy":
		right = pair.Value == ""
	case "prefix":
		a.Prefix = pair.Value
	case "after":
		a.After = pair.Value
	case "max":
		a.Max, right = numeral.Read(pair.Value, 1, api.MaxPage)
	case "version":
		a.Version, right = numeral.Read(pair.Value, 1, maxVersion)
	}
	return right
}

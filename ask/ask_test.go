package ask

import (
	"math/rand"
	"regexp"
	"strings"
	"testing"

	"larder/api"
)

// asked are the requests of the table, each as an expression of method, path, query (its pairs sorted by name) and body.
var asked = map[Kind]*regexp.Regexp{
	MakeBucket:    regexp.MustCompile(`\APUT bucket \? \z`),
	PutPolicy:     regexp.MustCompile(`\APUT bucket \?policy= (body)?\z`),
	GetPolicy:     regexp.MustCompile(`\AGET bucket \?policy= \z`),
	DeletePolicy:  regexp.MustCompile(`\ADELETE bucket \?policy= \z`),
	List:          regexp.MustCompile(`\AGET bucket \?(after=[^;]*;?)?(max=([1-9]|[1-4][0-9]|50);?)?(prefix=[^;]*)? \z`),
	Put:           regexp.MustCompile(`\APUT key \? (body)?\z`),
	Get:           regexp.MustCompile(`\AGET key \?(version=[1-9][0-9]{0,8})? \z`),
	Delete:        regexp.MustCompile(`\ADELETE key \? \z`),
	DeleteVersion: regexp.MustCompile(`\ADELETE key \?version=[1-9][0-9]{0,8} \z`),
}

func actionOf(kind Kind) string {
	switch kind {
	case MakeBucket:
		return ""
	case PutPolicy, GetPolicy, DeletePolicy:
		return "policy"
	case List:
		return "list"
	case Put:
		return "put"
	case Get:
		return "get"
	}
	return "delete"
}

// queries makes queries of none to three pairs, sorted by name.
func queries(r *rand.Rand) []api.Pair {
	var query []api.Pair
	for _, name := range []string{"after", "max", "odd", "policy", "prefix", "version"} {
		if r.Intn(6) == 0 {
			values := []string{"", "", "", "1", "9", "50", "51", "0", "01", "+1", "999999999", "1000000000", "x", "-1"}
			query = append(query, api.Pair{Name: name, Value: values[r.Intn(len(values))]})
		}
	}
	return query
}

func TestAsksGoAsTheTable(t *testing.T) {
	r := rand.New(rand.NewSource(17))
	seen := map[Kind]int{}
	for range 200000 {
		query, body := queries(r), ""
		if r.Intn(3) == 0 {
			body = "body"
		}
		method, what := []string{"GET", "PUT", "DELETE"}[r.Intn(3)], []string{"bucket", "key"}[r.Intn(2)]
		text := method + " " + what + " ?" + joined(query) + " " + body
		parts := api.Request{Method: method, Path: map[string]string{"bucket": "/box", "key": "/box/a/b "}[what], Query: shuffled(r, query), Body: body}
		got, err := Read(parts)
		want, found := find(text)
		if (err == nil) != found {
			t.Fatalf("%q: %+v, %v", text, got, err)
		}
		if !found {
			if got != (Ask{}) {
				t.Fatalf("%q: %+v with %v", text, got, err)
			}
			continue
		}
		seen[want]++
		if got.Kind != want || got.Action != actionOf(want) || got.Bucket != "box" || got.Key != parts.Path[min(len(parts.Path), 5):] || got.Body != body {
			t.Fatalf("%q: %+v, want the kind %d", text, got, want)
		}
	}
	for kind := range asked {
		if seen[kind] < 100 {
			t.Errorf("the kind %d was asked for %d times: too few to tell", kind, seen[kind])
		}
	}
}

func find(text string) (Kind, bool) {
	for kind, expression := range asked {
		if expression.MatchString(text) && !strings.Contains(text, "; ") {
			return kind, true
		}
	}
	return 0, false
}

func joined(query []api.Pair) string {
	var pairs []string
	for _, pair := range query {
		pairs = append(pairs, pair.Name+"="+pair.Value)
	}
	return strings.Join(pairs, ";")
}

// shuffled puts the pairs into another order, and pairs that say who signs among them.
func shuffled(r *rand.Rand, query []api.Pair) []api.Pair {
	list := append([]api.Pair{{Name: "x-user", Value: "al"}, {Name: "x-policy"}}, query...)
	if r.Intn(2) == 0 {
		list = append([]api.Pair{}, query...)
	}
	r.Shuffle(len(list), func(i, j int) { list[i], list[j] = list[j], list[i] })
	return list
}

func TestValuesOfTheQuery(t *testing.T) {
	for _, c := range []struct {
		path  string
		query []api.Pair
		want  Ask
	}{
		{"/box", nil, Ask{Kind: List, Max: 10}},
		{"/box", []api.Pair{{Name: "max", Value: "50"}}, Ask{Kind: List, Max: 50}},
		{"/box", []api.Pair{{Name: "after", Value: "b\xff"}, {Name: "max", Value: "1"}, {Name: "prefix", Value: "a/"}}, Ask{Kind: List, Max: 1, Prefix: "a/", After: "b\xff"}},
		{"/box/k", nil, Ask{Kind: Get, Max: 10, Key: "k"}},
		{"/box/k", []api.Pair{{Name: "version", Value: "999999999"}}, Ask{Kind: Get, Max: 10, Key: "k", Version: 999999999}},
	} {
		got, err := Read(api.Request{Method: "GET", Path: c.path, Query: c.query})
		c.want.Bucket, c.want.Action = "box", actionOf(c.want.Kind)
		if got != c.want || err != nil {
			t.Errorf("%s %v: %+v, %v, want %+v", c.path, c.query, got, err, c.want)
		}
	}
}

func TestPaths(t *testing.T) {
	for path, want := range map[string]bool{
		"/box": true, "/b-9": true, "/---": true, "/012": true, "/" + strings.Repeat("b", 20): true, "/box/k": true, "/box//": true, "/box/ ": true, "/box/~": true, "/box/a/b/": true, "/box/" + strings.Repeat("k", 40): true,
		"": false, "/": false, "//": false, "///": false, "/bo": false, "/box/": false, "/Box": false, "/b x": false, "/b_x": false, "/box\x00": false, "/" + strings.Repeat("b", 21): false, "//box": false, "//box/k": false, "/bo/k": false,
		"/box/\x1f": false, "/box/\x7f": false, "/box/k\n": false, "/box/\xc3\xa4": false, "/box/" + strings.Repeat("k", 41): false, "/BOX/k": false, "/box?": false,
	} {
		got, err := Read(api.Request{Method: "GET", Path: path})
		if (err == nil) != want {
			t.Errorf("%q: %+v, %v", path, got, err)
		}
	}
}

package request

import (
	"fmt"
	"math/rand"
	"net/url"
	"reflect"
	"regexp"
	"strings"
	"testing"

	"larder/api"
)

// gaveUpWith reads a whole request and tells what the reader panicked with.
func gaveUpWith(text string) (value any) {
	defer func() { value = recover() }()
	r := reader{rest: text}
	r.readRequest()
	return nil
}

// The face catches whatever comes up: so here it is seen that nothing but noRequest does.
func TestReaderGivesUpByNoRequestAlone(t *testing.T) {
	for _, text := range []string{"", "\n", "GET", "GET /", "GET /\n", "GET \n\n", "GET /%\n\n", "GET /?\n\n", "GET /?a&a\n\n", "GET /\na\n\n", "GET /\na: \x1f\n\n", "PUT /\n\nx"} {
		if _, ok := gaveUpWith(text).(noRequest); !ok {
			t.Errorf("the reader of %q gave up with %v", text, gaveUpWith(text))
		}
	}
	r := rand.New(rand.NewSource(8))
	for range 30000 {
		text := randomRequest(r)
		value := gaveUpWith(text)
		if _, ok := value.(noRequest); value != nil && !ok {
			t.Errorf("the reader of %q gave up with %v", text, value)
		}
	}
}

// randomRequest makes texts that are requests often enough, and often enough just not.
func randomRequest(r *rand.Rand) string {
	pick := func(texts ...string) string { return texts[r.Intn(len(texts))] }
	text := pick("GET", "PUT", "DELETE") + " /" + pick("", "box", "box/k%20", "%2F", "~")
	for i := range r.Intn(4) {
		text += string("?&&&"[i]) + pick("a", "b", "c=", "d=1", "%65=%3d", "x-sig=0")
	}
	text += "\n"
	for range r.Intn(4) {
		text += pick("host: h", "x-a: ", "auth: a b", "length: 0", "b:  : ", "0-: ~") + "\n"
	}
	if body := pick("", "", "hi", "\n"); body != "" {
		text += fmt.Sprintf("length: %d\n\n%s", len(body), body)
	} else {
		text += "\n"
	}
	if r.Intn(2) == 0 {
		return text
	}
	at := r.Intn(len(text))
	end := min(len(text), at+r.Intn(2))
	return text[:at] + pick("", "", " ", "/", "%", "?", "&", "=", ":", "\n", "a", "A", "0", "\x00", "\xff") + text[end:]
}

const (
	word = `(?:[A-Za-z0-9._~-]|%[0-9A-Fa-f]{2})`
	pair = word + `+(?:=` + word + `*)?`
)

var rule = regexp.MustCompile(`\A(GET|PUT|DELETE) (/(?:/|` + word + `)*)(?:\?(` + pair + `(?:&` + pair + `)*))?\n((?:[a-z0-9-]{1,20}: [ -~]*\n){0,12})\n((?s:.*))\z`)

// byRule takes a request apart by an expression of its form, in another way than the reader.
func byRule(text string) (api.Request, bool) {
	found := rule.FindStringSubmatch(latin(text))
	if found == nil {
		return api.Request{}, false
	}
	want := api.Request{Method: found[1], Path: unescape(found[2]), Body: bytesOf(found[5])}
	for _, text := range strings.FieldsFunc(found[3], func(r rune) bool { return r == '&' }) {
		name, value, _ := strings.Cut(text, "=")
		want.Query = append(want.Query, api.Pair{Name: unescape(name), Value: unescape(value)})
	}
	length := ""
	for _, line := range strings.SplitAfter(found[4], "\n") {
		if name, value, ok := strings.Cut(strings.TrimSuffix(line, "\n"), ": "); ok {
			want.Headers = append(want.Headers, api.Pair{Name: name, Value: value})
			if name == "length" {
				length = value
			}
		}
	}
	right := length == fmt.Sprint(len(want.Body)) || length == "" && want.Body == "" && !strings.Contains(found[4], "length: \n")
	return want, right && distinct(want.Query) && distinct(want.Headers)
}

func unescape(text string) string {
	plain, err := url.PathUnescape(text)
	if err != nil {
		panic(err)
	}
	return plain
}

// latin tells each byte as a rune, since expressions go by runes; bytesOf undoes it.
func latin(text string) string {
	runes := make([]rune, len(text))
	for i := range len(text) {
		runes[i] = rune(text[i])
	}
	return string(runes)
}

func bytesOf(text string) string {
	var out []byte
	for _, r := range text {
		out = append(out, byte(r))
	}
	return string(out)
}

func distinct(pairs []api.Pair) bool {
	names := map[string]bool{}
	for _, pair := range pairs {
		names[pair.Name] = true
	}
	return len(names) == len(pairs)
}

func TestParseGoesByTheRule(t *testing.T) {
	r := rand.New(rand.NewSource(9))
	right := 0
	const rounds = 30000
	for range rounds {
		text := randomRequest(r)
		want, ok := byRule(text)
		wantErrno := api.OK
		if !ok {
			want, wantErrno = api.Request{}, api.ErrForm
		} else {
			right++
		}
		if got, errno := Parse(text); !reflect.DeepEqual(got, want) || errno != wantErrno {
			t.Errorf("Parse(%q) = %q, %d, want %q, %d", text, fmt.Sprint(got), errno, fmt.Sprint(want), wantErrno)
		}
	}
	if right < rounds/5 || right > rounds*4/5 {
		t.Errorf("%d of %d texts were requests: too few of one kind to tell", right, rounds)
	}
}

func TestFind(t *testing.T) {
	pairs := []api.Pair{{Name: "a", Value: "1"}, {Name: "b"}}
	for name, want := range map[string]struct {
		value string
		there bool
	}{"a": {"1", true}, "b": {"", true}, "c": {"", false}, "": {"", false}} {
		if value, there := Find(pairs, name); value != want.value || there != want.there {
			t.Errorf("Find(%q) = %q, %v, want %q, %v", name, value, there, want.value, want.there)
		}
	}
}

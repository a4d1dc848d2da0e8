package larder_test

import (
	"math"
	"reflect"
	"slices"
	"strings"
	"sync"
	"testing"

	"larder/api"
	"larder/larder"
)

func oddTexts() []string {
	return []string{
		"", "%", "%6", "/", "\n", "\x00", "\xff", "{", "a b", "GET / \n\n",
		strings.Repeat("%", 3000000), strings.Repeat("a", 3000000) + "%",
		strings.Repeat("\xff", 3000000), strings.Repeat("[", 1000000),
		"GET /?" + strings.Repeat("a&", 3000000), "GET /\n" + strings.Repeat("a: b\n", 1000000) + "\n",
		"GET /?" + strings.Repeat("a&", 900), "GET /\n" + strings.Repeat("\n", 1900), "PUT /\nlength: 99999999999999999999\n\nx",
	}
}

// That this test comes to its end says that each call has, without a panic.
func TestP1EveryCallOfTextsEnds(t *testing.T) {
	for _, text := range oddTexts() {
		larder.Hash(text)
		larder.Mac(text, text)
		larder.Crc(text)
		larder.Encode(text, false)
		larder.Encode(text, true)
		larder.Decode(text, false)
		larder.Decode(text, true)
		larder.Parse(text)
		larder.Canon(text, text)
		larder.Canon("GET /\nhost: h\n\n", text)
		larder.Policy(text)
		larder.Rule(text, text, text, text)
		larder.Rule(allowing("*[*%*"), "al", "get", text)
		larder.Rule(example4, text, text, text)
		for _, second := range []int{math.MinInt, -1, 0, api.MaxClock, math.MaxInt} {
			larder.Sign(text, second, text)
		}
	}
}

func TestP1WithAnErrorTheTextIsEmpty(t *testing.T) {
	for _, code := range []string{"abc%", "abc%6", "abc d", strings.Repeat("a", 3000000) + "%"} {
		if text, errno := larder.Decode(code, true); text != "" || errno != api.ErrForm {
			t.Errorf("Decode(%.20q) = %.20q, %d, want the empty text, ErrForm", code, text, errno)
		}
	}
}

func TestP1WithAnErrorNothingIsSaid(t *testing.T) {
	allow := allowing("*")
	for policy, want := range map[string]api.Errno{
		allow + strings.Repeat(" ", 300): api.ErrLong, allow + "x": api.ErrForm, strings.Replace(allow, "}]", "},{}]", 1): api.ErrPolicy,
	} {
		if says, errno := larder.Rule(policy, "al", "get", "key"); says != 0 || errno != want {
			t.Errorf("Rule(%q) = %d, %d, want 0, %d", policy, says, errno, want)
		}
	}
}

// Of the errors of a text that is too long, no JSON and no policy the first is told, and so on.
func TestP1PoliciesTellTheFirstError(t *testing.T) {
	wantPolicy(t, strings.Repeat("x", api.MaxBody+1), api.ErrLong)
	wantPolicy(t, "[]"+strings.Repeat(" ", api.MaxBody-1), api.ErrLong)
	wantPolicy(t, `{"rules":[{}],}`, api.ErrForm)
	wantPolicy(t, `{"no":[]}x`, api.ErrForm)
}

func TestP1LongTextsComeWhole(t *testing.T) {
	text := strings.Repeat("a \xff/", 500000)
	code := larder.Encode(text, true)
	if want := strings.Repeat("a%20%FF/", 500000); code != want {
		t.Errorf("the code of a long text has %d bytes, or others, want %d", len(code), len(want))
	}
	if got, errno := larder.Decode(code, true); got != text || errno != api.OK {
		t.Errorf("a long code: %d bytes, or others, and %d", len(got), errno)
	}
}

type answers struct {
	hash, tag, code, text, none, canon, signature string
	check                                         uint32
	parts                                         api.Request
	says                                          int
	right, wrong, parsed, formed, signed, ruled   api.Errno
	policies                                      [4]api.Errno
}

func answersOf(text string) answers {
	a := answers{hash: larder.Hash(text), tag: larder.Mac("key", text), code: larder.Encode(text, false), check: larder.Crc(text)}
	a.text, a.right = larder.Decode(a.code, false)
	a.none, a.wrong = larder.Decode(a.code+"%", false)
	request := "GET /?b&a=" + a.code + "\nx-b: 1\na: 2\n\n"
	a.parts, a.parsed = larder.Parse(request)
	a.canon, a.formed = larder.Canon(request, "a;x-b")
	a.signature, a.signed = larder.Sign("secret", len(text), text)
	a.says, a.ruled = larder.Rule(allowing("a*b*"), "al", "get", text)
	for i, policy := range []string{example4, text, "{}", strings.Repeat(" ", 301)} {
		a.policies[i] = larder.Policy(policy)
	}
	return a
}

// What was called before, or is called at the same time, changes no answer.
func TestP2AnswersHangOnArgumentsAlone(t *testing.T) {
	texts := []string{"", "abc", "a b/c", strings.Repeat("\xff", 200)}
	var first [4]answers
	for i, text := range texts {
		first[i] = answersOf(text)
	}
	var wait sync.WaitGroup
	for i := range 40 {
		wait.Go(func() {
			if again := answersOf(texts[i%4]); !reflect.DeepEqual(again, first[i%4]) {
				t.Errorf("%.20q: %+v, then %+v", texts[i%4], first[i%4], again)
			}
		})
	}
	wait.Wait()
}

// overwrite writes into a list and into its spare room.
func overwrite(pairs []api.Pair) {
	pairs = pairs[:cap(pairs)]
	for i := range pairs {
		pairs[i] = api.Pair{Name: "written", Value: "over"}
	}
}

func copyOf(parts api.Request) api.Request {
	parts.Query, parts.Headers = slices.Clone(parts.Query), slices.Clone(parts.Headers)
	return parts
}

func TestP2ListsThatComeOutAreNewMemory(t *testing.T) {
	for _, text := range []string{
		"GET /\n\n", "GET /?a=1\nb: 2\n\n", "GET /?a&b&c\n\n", "GET /\na: 1\nb: 2\nc: 3\n\n",
		"PUT /k?e=5&d=4&c=3&b=2&a=1\ne: 5\nd: 4\nc: 3\nb: 2\nlength: 1\n\nx",
	} {
		first, _ := larder.Parse(text)
		want := copyOf(first)
		second, _ := larder.Parse(text)
		overwrite(second.Query)
		if !reflect.DeepEqual(second.Headers, want.Headers) || !reflect.DeepEqual(first, want) {
			t.Errorf("Parse(%q): writing into one list changed another", text)
		}
		overwrite(second.Headers)
		if !reflect.DeepEqual(first, want) {
			t.Errorf("Parse(%q): writing into a list changed one that came before", text)
		}
		if third, _ := larder.Parse(text); !reflect.DeepEqual(third, want) {
			t.Errorf("Parse(%q): writing into a list changed one that came later", text)
		}
	}
}

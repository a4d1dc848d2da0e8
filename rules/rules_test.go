package rules

import (
	"math/rand"
	"regexp"
	"strings"
	"testing"

	"larder/api"
	"larder/json"
)

// gaveUpWith reads a policy of a JSON text and tells what the reader panicked with.
func gaveUpWith(text string) (value any) {
	defer func() { value = recover() }()
	read, errno := json.Read(text)
	if errno == api.OK {
		readPolicy(read)
	}
	return nil
}

// The face catches whatever comes up: so here it is seen that nothing but noPolicy does.
func TestReaderGivesUpByNoPolicyAlone(t *testing.T) {
	for _, text := range []string{"null", "[]", "{}", `{"a":[]}`, `{"rules":true}`, `{"rules":[true]}`, `{"rules":[{}]}`, `{"rules":[{"a":"","b":[],"c":[],"d":[]}]}`, `{"rules":[{"effect":"","who":[],"do":[],"on":[]}]}`, `{"rules":[{"effect":"deny","who":[],"do":[],"on":[]}]}`, `{"rules":[{"effect":"deny","who":[[]],"do":[],"on":[]}]}`} {
		if _, ok := gaveUpWith(text).(noPolicy); !ok {
			t.Errorf("the reader of %q gave up with %v", text, gaveUpWith(text))
		}
	}
	r := rand.New(rand.NewSource(12))
	for range 30000 {
		text := randomPolicy(r)
		value := gaveUpWith(text)
		if _, ok := value.(noPolicy); value != nil && !ok {
			t.Errorf("the reader of %q gave up with %v", text, value)
		}
	}
}

func pick(r *rand.Rand, texts ...string) string { return texts[r.Intn(len(texts))] }

// seldom gives a text that is mostly wrong where another is right.
func seldom(r *rand.Rand, right string) string {
	if r.Intn(40) > 0 {
		return right
	}
	return pick(r, "true", "null", `""`, `"*"`, "[]", "{}", `"allow"`, `["get"]`, `["al"]`, `"who"`, `"rules"`)
}

// randomPolicy makes JSON that is a policy often enough, and often enough just not.
func randomPolicy(r *rand.Rand) string {
	var list []string
	for range r.Intn(3) {
		list = append(list, seldom(r, randomRule(r)))
	}
	return "{" + seldom(r, `"rules"`) + ": " + seldom(r, "["+strings.Join(list, " , ")+"]") + pick(r, "", "", "", "", "", "\n", `,"a":null`) + "}"
}

func randomRule(r *rand.Rand) string {
	members := []string{
		`"effect":` + seldom(r, pick(r, `"allow"`, `"deny"`)),
		`"who":` + seldom(r, randomList(r, `"al"`, `"bo"`, `"*"`)),
		`"do" :` + seldom(r, randomList(r, `"get"`, `"put"`, `"*"`)),
		`"on": ` + seldom(r, randomList(r, `"a*"`, `"?"`, `""`, `"*"`)),
	}
	r.Shuffle(4, func(i, j int) { members[i], members[j] = members[j], members[i] })
	if r.Intn(20) == 0 {
		members[0] = members[1]
	}
	if r.Intn(20) == 0 {
		members = members[1:]
	}
	return "{" + strings.Join(members, ",") + "}"
}

func randomList(r *rand.Rand, texts ...string) string {
	var list []string
	for range 1 + r.Intn(40)/9 {
		list = append(list, seldom(r, pick(r, texts...)))
	}
	return "[" + strings.Join(list, ",") + "]"
}

const (
	who    = `"(?:[a-z0-9]{1,12}|\*)"`
	do     = `"(?:get|put|delete|list|policy|\*)"`
	on     = `"[^"]*"`
	member = `"effect":"(?:allow|deny)"|"who":\[` + who + `(?:,` + who + `){0,3}\]|"do":\[` + do + `(?:,` + do + `){0,3}\]|"on":\[` + on + `(?:,` + on + `){0,3}\]`
	object = `\{(?:` + member + `)(?:,(?:` + member + `)){3}\}`
)

var (
	whole       = regexp.MustCompile(`\A\{"rules":\[(?:` + object + `(?:,` + object + `){0,3})?\]\}\z`)
	objects     = regexp.MustCompile(object)
	memberNames = regexp.MustCompile(`"(effect|who|do|on)":`)
	texts       = regexp.MustCompile(`"([^"]*)"`)
)

// byExpression tells a policy in another way than the reader. It knows of no escapes: randomPolicy makes none.
func byExpression(text string) (Policy, bool) {
	text = strings.NewReplacer(" ", "", "\n", "").Replace(text)
	if !whole.MatchString(text) {
		return Policy{}, false
	}
	var policy Policy
	for _, object := range objects.FindAllString(text, -1) {
		spans := memberNames.FindAllStringSubmatchIndex(object, -1)
		lists := map[string][]string{}
		for i, span := range spans {
			end := len(object)
			if i+1 < len(spans) {
				end = spans[i+1][0]
			}
			for _, found := range texts.FindAllStringSubmatch(object[span[1]:end], -1) {
				name := object[span[2]:span[3]]
				lists[name] = append(lists[name], found[1])
			}
		}
		if len(lists) != 4 {
			return Policy{}, false
		}
		one := rule{says: Allows, who: lists["who"], do: lists["do"], on: lists["on"]}
		if lists["effect"][0] == "deny" {
			one.says = Denies
		}
		policy.rules = append(policy.rules, one)
	}
	return policy, true
}

// asText writes a policy so that two may be held against each other.
func asText(policy Policy) string {
	var lines []string
	for _, r := range policy.rules {
		lines = append(lines, string(rune('0'+r.says)), strings.Join(r.who, "\n"), strings.Join(r.do, "\n"), strings.Join(r.on, "\n"))
	}
	return strings.Join(lines, "\n\n")
}

func TestReadGoesByTheForm(t *testing.T) {
	r := rand.New(rand.NewSource(13))
	right := 0
	const rounds = 30000
	for range rounds {
		text := randomPolicy(r)
		want, ok := byExpression(text)
		wantErrno := api.OK
		switch {
		case len(text) > api.MaxBody:
			want, wantErrno = Policy{}, api.ErrLong
		case !ok:
			// What it makes is JSON but where a name is no string.
			if _, errno := json.Read(text); errno != api.OK {
				wantErrno = api.ErrForm
			} else {
				wantErrno = api.ErrPolicy
			}
		default:
			right++
		}
		if got, errno := Read(text); asText(got) != asText(want) || errno != wantErrno {
			t.Errorf("Read(%q) = %q, %d, want %q, %d", text, asText(got), errno, asText(want), wantErrno)
		}
	}
	if right < rounds/5 || right > rounds*4/5 {
		t.Errorf("%d of %d texts were policies: too few of one kind to tell", right, rounds)
	}
}

// asExpression writes a pattern as an expression.
func asExpression(pattern string) *regexp.Regexp {
	quoted := regexp.QuoteMeta(pattern)
	return regexp.MustCompile(`\A(?s:` + strings.NewReplacer(`\*`, ".*", `\?`, ".").Replace(quoted) + `)\z`)
}

// Each short pattern is held against each short key.
func TestFitsGoesAsAnExpression(t *testing.T) {
	keys := allTexts("ab*", 5)
	for _, pattern := range allTexts("ab*?", 4) {
		expression := asExpression(pattern)
		for _, key := range keys {
			if got, want := fits(pattern, key), expression.MatchString(key); got != want {
				t.Errorf("fits(%q, %q) = %v, want %v", pattern, key, got, want)
			}
		}
	}
	r := rand.New(rand.NewSource(14))
	for range 20000 {
		pattern, key := randomOf(r, "aab*?", 12), randomOf(r, "aaab?\n", 20)
		if got, want := fits(pattern, key), asExpression(pattern).MatchString(key); got != want {
			t.Errorf("fits(%q, %q) = %v, want %v", pattern, key, got, want)
		}
	}
}

// allTexts makes all texts of these bytes, of at most this length.
func allTexts(bytes string, length int) []string {
	texts := []string{""}
	for from := 0; length > 0; length-- {
		end := len(texts)
		for _, text := range texts[from:end] {
			for i := range len(bytes) {
				texts = append(texts, text+bytes[i:i+1])
			}
		}
		from = end
	}
	return texts
}

func randomOf(r *rand.Rand, bytes string, most int) string {
	var text []byte
	for range r.Intn(most + 1) {
		text = append(text, bytes[r.Intn(len(bytes))])
	}
	return string(text)
}

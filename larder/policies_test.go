package larder_test

import (
	"strings"
	"testing"

	"larder/api"
	"larder/larder"
)

const (
	emptyPolicy = `{"rules":[]}`
	example4    = `{"rules":[{"effect":"deny","who":["*"],"do":["get"],"on":["s*"]},{"effect":"allow","who":["bo"],"do":["*"],"on":["*"]}]}`
)

// ruleOf writes a rule of lists that are given as JSON.
func ruleOf(effect, who, do, on string) string {
	return `{"effect":"` + effect + `","who":` + who + `,"do":` + do + `,"on":` + on + `}`
}

func policyOf(rules ...string) string {
	return `{"rules":[` + strings.Join(rules, ",") + `]}`
}

// allowing writes a policy that allows al to get what a pattern fits.
func allowing(pattern string) string {
	quoted := strings.NewReplacer(`\`, `\\`, `"`, `\"`).Replace(pattern)
	return policyOf(ruleOf("allow", `["al"]`, `["get"]`, `["`+quoted+`"]`))
}

// wantPolicy holds Policy and Rule to one answer: Rule has the errors of Policy.
func wantPolicy(t *testing.T, text string, want api.Errno) {
	t.Helper()
	if errno := larder.Policy(text); errno != want {
		t.Errorf("Policy(%.90q) = %d, want %d", text, errno, want)
	}
	says, errno := larder.Rule(text, "al", "get", "key")
	if errno != want || errno != api.OK && says != 0 {
		t.Errorf("Rule(%.90q) = %d, %d, want %d", text, says, errno, want)
	}
}

func wantRule(t *testing.T, policy, user, action, key string, want int) {
	t.Helper()
	if says, errno := larder.Rule(policy, user, action, key); says != want || errno != api.OK {
		t.Errorf("Rule(%q, %q, %q, %.40q) = %d, %d, want %d", policy, user, action, key, says, errno, want)
	}
}

func TestP7Policies(t *testing.T) {
	each := `["*"]`
	least := ruleOf("deny", each, each, `[""]`)
	for _, text := range []string{
		emptyPolicy,
		example4,
		" \n{ \n\"rules\"\n : [\n ] \n} \n",
		emptyPolicy + strings.Repeat(" ", api.MaxBody-len(emptyPolicy)),
		strings.Repeat("\n", api.MaxBody-len(emptyPolicy)) + emptyPolicy,
		policyOf(least), policyOf(least, least, least, least),
		policyOf(ruleOf("allow", `["a","z","0","9"]`, `["get","put","delete","list"]`, `["a","b","c","d"]`)),
		policyOf(ruleOf("allow", `["abcdefghijkl"]`, `["policy"]`, each)),
		policyOf(ruleOf("allow", `["123456789012"]`, `["*","get"]`, each)),
		policyOf(ruleOf("allow", `["al","al","*","*"]`, `["get","get"]`, `["a","a"]`)),
		policyOf(ruleOf("allow", each, each, `["", "  ", "a/b", "[{,:}]"]`)),
		policyOf(ruleOf("allow", each, each, `["\\", "\"", "\\\"\\\\", "'~"]`)),
		policyOf(ruleOf("allow", each, each, `["`+strings.Repeat("*", 200)+`"]`)),
	} {
		wantPolicy(t, text, api.OK)
	}
}

func TestP7MembersStandInAnyOrder(t *testing.T) {
	members := []string{`"effect":"allow"`, `"who":["al"]`, `"do":["get"]`, `"on":["k*"]`}
	for i := range 256 {
		order := [4]int{i & 3, i >> 2 & 3, i >> 4 & 3, i >> 6}
		var rule []string
		seen := 0
		for _, at := range order {
			rule = append(rule, members[at])
			seen |= 1 << at
		}
		want := api.OK
		if seen != 15 {
			want = api.ErrPolicy
		}
		wantPolicy(t, policyOf("{"+strings.Join(rule, ",")+"}"), want)
	}
}

func TestP7LongTexts(t *testing.T) {
	wantPolicy(t, emptyPolicy+strings.Repeat(" ", api.MaxBody-len(emptyPolicy)+1), api.ErrLong)
	for _, bit := range []string{"x", "[", `{"a":`, "\x00", " "} {
		wantPolicy(t, strings.Repeat(bit, api.MaxBody+1), api.ErrLong)
		wantPolicy(t, strings.Repeat(bit, 2000000), api.ErrLong)
		wantPolicy(t, strings.Repeat(bit, api.MaxBody/len(bit)), api.ErrForm)
	}
}

func TestP7NoJSON(t *testing.T) {
	for _, text := range []string{
		"", " ", "\n", "x", "1", "-1", "0.5", "'a'", "nul", "nulll", "True", "NULL", "truefalse", "true false", "tr ue",
		"{", "}", "[", "]", "{]", "[}", "[]]", "{}}", "[[]", "{{}}", "{}{}", "[][]", `""""`,
		",", "[,]", "[true,]", "[,true]", "[true,,true]", "[true true]", "[true:true]", "[[] []]",
		"{,}", `{"a"}`, `{"a":}`, `{:true}`, `{"a":true,}`, `{,"a":true}`, `{"a":true "b":true}`, `{"a" true}`, `{"a",true}`, `{"a"::true}`,
		"{a:true}", "{true:true}", "{[]:true}", `["a":true]`,
		`"`, `"a`, `a"`, `"a"b"`, `"\"`, `"\`, `"\a"`, `"\n"`, `"\u0061"`, `"\/"`, "\"\\\n\"", "\"\n\"", "\"\x1f\"", "\"\x7f\"", "\"\xc3\xa4\"",
		"\t[]", "[\r]", "[]\x00", "\xef\xbb\xbf[]", "[\u00a0]", "//\n[]", "[]#",
		emptyPolicy + "x", emptyPolicy[:len(emptyPolicy)-1], emptyPolicy + ",", "{rules:[]}", `{"rules":[],}`, `{"rules":[1]}`,
	} {
		wantPolicy(t, text, api.ErrForm)
	}
}

func TestP7JSONButNoPolicy(t *testing.T) {
	for _, text := range []string{
		"true", "false", "null", `""`, `"rules"`, "[]", "{}", "[true,false,null]", `[{"rules":[]}]`, `"{\"rules\":[]}"`,
		`{"rules":true}`, `{"rules":null}`, `{"rules":""}`, `{"rules":"[]"}`, `{"rules":{}}`, `{"rules":[],"rules":[]}`, `{"rules":[],"a":null}`, `{"a":null,"rules":[]}`,
		`{"":[]}`, `{"rule":[]}`, `{"Rules":[]}`, `{"rules ":[]}`, `{"\"rules\"":[]}`,
		`{"rules":[null]}`, `{"rules":[[]]}`, `{"rules":[{}]}`, `{"rules":["deny"]}`, `{"rules":["effect","who","do","on"]}`,
		`{"a":true,"a":false}`, "[ [ ]\n, { } ]",
	} {
		wantPolicy(t, text, api.ErrPolicy)
	}
}

func TestP7RulesThatAreNone(t *testing.T) {
	each := `["*"]`
	least := ruleOf("deny", each, each, `[""]`)
	none := []string{
		ruleOf("", each, each, each), ruleOf("Allow", each, each, each), ruleOf("allow ", each, each, each), ruleOf("*", each, each, each), ruleOf("allowed", each, each, each),
		strings.Replace(least, `"deny"`, `["deny"]`, 1), strings.Replace(least, `"deny"`, "true", 1), strings.Replace(least, `"deny"`, "null", 1),
		least[:len(least)-1] + `,"more":true}`, least[:len(least)-1] + `,"on":["*"]}`, strings.Replace(least, "{", `{"who":["*"],`, 1),
	}
	for _, list := range []string{`"*"`, "true", "null", "{}", "[]", "[true]", "[null]", "[[]]", `[["*"]]`, `["*",null]`, `["*","*","*","*","*"]`, `{"*":"*"}`} {
		none = append(none, ruleOf("allow", list, each, each), ruleOf("allow", each, list, each), ruleOf("allow", each, each, list))
	}
	for _, who := range []string{"", " ", "Al", "a*", "**", "?", "a-b", "a b", "a_", "abcdefghijklm", `\"`, "`", "{", "/", ":", "al "} {
		none = append(none, ruleOf("allow", `["`+who+`"]`, each, each), ruleOf("allow", `["al","`+who+`"]`, each, each))
	}
	for _, do := range []string{"", "Get", "gets", "ge", "g*", "**", "?", "GET", "post", "allow", "get "} {
		none = append(none, ruleOf("allow", each, `["`+do+`"]`, each), ruleOf("allow", each, `["get","`+do+`"]`, each))
	}
	for _, name := range []string{"effect", "who", "do", "on"} {
		none = append(none,
			strings.Replace(least, `"`+name+`"`, `"at"`, 1), strings.Replace(least, `"`+name+`"`, `"`+strings.ToUpper(name)+`"`, 1),
			strings.Replace(least, `"`+name+`"`, `""`, 1), strings.Replace(least, `"`+name+`"`, `"`+name+` "`, 1))
	}
	for _, rule := range none {
		wantPolicy(t, policyOf(rule), api.ErrPolicy)
		wantPolicy(t, policyOf(least, rule), api.ErrPolicy)
	}
	wantPolicy(t, policyOf(least, least, least, least, least), api.ErrPolicy)
	wantPolicy(t, policyOf("{}", "{}", "{}", "{}", "{}", "{}"), api.ErrPolicy)
}

// Each byte is tried within a string, behind a backslash in it, and between tokens.
func TestP7BytesOfJSON(t *testing.T) {
	for i := range 256 {
		b := string([]byte{byte(i)})
		inString, escaped, between := api.ErrForm, api.ErrForm, api.ErrForm
		if 32 <= i && i <= 126 && b != `"` && b != `\` {
			inString = api.OK
		}
		if b == `"` || b == `\` {
			escaped = api.OK
		}
		if b == " " || b == "\n" {
			between = api.OK
		}
		wantPolicy(t, policyOf(ruleOf("allow", `["*"]`, `["*"]`, `["a`+b+`c"]`)), inString)
		wantPolicy(t, policyOf(ruleOf("allow", `["*"]`, `["*"]`, `["a\`+b+`c"]`)), escaped)
		for at := range len(emptyPolicy) + 1 {
			inName := 2 <= at && at <= 7
			if !inName {
				wantPolicy(t, emptyPolicy[:at]+b+emptyPolicy[at:], between)
			}
		}
	}
}

// Spaces stand between all tokens, none within one.
func TestP7SpacesStandBetweenTokens(t *testing.T) {
	tokens := []string{"{", `"rules"`, ":", "[", "{", `"effect"`, ":", `"allow"`, ",", `"who"`, ":", "[", `"al"`, ",", `"bo"`, "]", ",", `"do"`, ":", "[", `"get"`, "]", ",", `"on"`, ":", "[", `"a b"`, "]", "}", "]", "}"}
	for _, space := range []string{"", " ", "\n", " \n", "\n\n  "} {
		text := space + strings.Join(tokens, space) + space
		wantPolicy(t, text, api.OK)
		wantRule(t, text, "bo", "get", "a b", 1)
		wantRule(t, text, "bo", "get", "ab", 0)
	}
	for _, text := range []string{`{"rules" :[null , true]}`, "[\n]", "[ true\n]", "\nnull "} {
		wantPolicy(t, text, api.ErrPolicy)
	}
	for _, text := range []string{"t rue", "fals\ne", "n ull", "\"a\n\"", `{"rules":[tr ue]}`, "\"\\ \"\""} {
		wantPolicy(t, text, api.ErrForm)
	}
}

func TestP7NoValueStandsWithinMoreThanSix(t *testing.T) {
	nested := func(open, inner, end string, depth int) string {
		return strings.Repeat(open, depth) + inner + strings.Repeat(end, depth)
	}
	for depth := range 30 {
		want := api.ErrPolicy
		if depth > api.MaxDepth {
			want = api.ErrForm
		}
		for _, inner := range []string{"true", "null", `""`, "[]", "{}", " [ ] "} {
			wantPolicy(t, nested("[", inner, "]", depth), want)
			wantPolicy(t, nested(`{"":`, inner, "}", depth), want)
			wantPolicy(t, nested("[[],", inner, ",{}]", depth), want)
		}
	}
	// What stands beside is not within.
	wantPolicy(t, "["+strings.Repeat("[],{},", 40)+"[[[[[true]]]]]]", api.ErrPolicy)
	wantPolicy(t, "["+strings.Repeat("[[]],", 40)+"[[[[[[true]]]]]]]", api.ErrForm)
	wantPolicy(t, "[[[[[[true]]]]],[[[[[true]]]]],[[[[[true]]]]]]", api.ErrPolicy)
}

func TestP7Example4(t *testing.T) {
	wantPolicy(t, emptyPolicy, api.OK)
	wantRule(t, example4, "bo", "get", "sun", 2)
	wantRule(t, example4, "bo", "get", "moon", 1)
	wantRule(t, example4, "al", "get", "moon", 0)
	wantRule(t, example4, "bo", "list", "", 1)
}

func TestP7ARuleSpeaks(t *testing.T) {
	wantRule(t, emptyPolicy, "al", "get", "key", 0)
	one := policyOf(ruleOf("allow", `["al","bo"]`, `["get","put"]`, `["a*","b"]`))
	for _, c := range []struct {
		user, action, key string
		want              int
	}{
		{"al", "get", "a", 1}, {"bo", "put", "b", 1}, {"al", "put", "abc", 1}, {"bo", "get", "a/b", 1},
		{"cy", "get", "a", 0}, {"al", "list", "a", 0}, {"al", "get", "c", 0}, {"al", "get", "bb", 0}, {"al", "get", "", 0},
		{"", "get", "a", 0}, {"*", "get", "a", 0}, {"al", "*", "a", 0}, {"al", "", "a", 0}, {"a", "get", "a", 0}, {"all", "get", "a", 0}, {"AL", "get", "a", 0}, {"al", "GET", "a", 0}, {"al;bo", "get", "a", 0},
		{"get", "al", "a", 0},
	} {
		wantRule(t, one, c.user, c.action, c.key, c.want)
	}
	all := policyOf(ruleOf("deny", `["al","*"]`, `["get","*"]`, `["a","*"]`))
	for _, text := range []string{"", "*", "al", "no user", "\x00\xff", strings.Repeat("a", 3000000)} {
		wantRule(t, all, text, text, text, 2)
	}
	wantRule(t, policyOf(ruleOf("allow", `["*"]`, `["get"]`, `["*"]`)), "al", "put", "k", 0)
	wantRule(t, policyOf(ruleOf("allow", `["al"]`, `["*"]`, `["*"]`)), "bo", "put", "k", 0)
}

// A rule speaks as a whole: what one has of who and another of what does not come together.
func TestP7RulesSpeakEachForItself(t *testing.T) {
	text := policyOf(ruleOf("allow", `["al"]`, `["get"]`, `["a"]`), ruleOf("allow", `["bo"]`, `["put"]`, `["b"]`))
	wantRule(t, text, "al", "get", "a", 1)
	wantRule(t, text, "bo", "put", "b", 1)
	for _, c := range [][3]string{{"al", "put", "b"}, {"bo", "get", "b"}, {"bo", "put", "a"}, {"al", "get", "b"}, {"al", "put", "a"}, {"bo", "get", "a"}} {
		wantRule(t, text, c[0], c[1], c[2], 0)
	}
}

func TestP7DenyGoesAheadOfAllow(t *testing.T) {
	each := `["*"]`
	allow := func(on string) string { return ruleOf("allow", each, each, `["`+on+`"]`) }
	deny := func(on string) string { return ruleOf("deny", each, each, `["`+on+`"]`) }
	for _, c := range []struct {
		policy string
		want   int
	}{
		{policyOf(allow("k"), deny("k")), 2}, {policyOf(deny("k"), allow("k")), 2}, {policyOf(deny("*"), allow("k"), allow("*")), 2}, {policyOf(allow("*"), allow("k"), allow("?"), deny("k")), 2},
		{policyOf(deny("j"), allow("k")), 1}, {policyOf(allow("k"), deny("j")), 1}, {policyOf(allow("j"), deny("k")), 2}, {policyOf(deny("j"), allow("j")), 0}, {policyOf(deny("k")), 2},
	} {
		wantRule(t, c.policy, "al", "get", "k", c.want)
	}
}

func TestP7Patterns(t *testing.T) {
	for _, c := range []struct {
		pattern, key string
		want         int
	}{
		{"", "", 1}, {"", "a", 0}, {"a", "", 0}, {"a", "a", 1}, {"a", "A", 0}, {"a", "ab", 0}, {"ab", "a", 0}, {"ab", "b", 0},
		{"*", "", 1}, {"*", "a/b c", 1}, {"***", "", 1}, {"***", "a", 1}, {"*", "\x00\n\xff", 1},
		{"?", "", 0}, {"?", "a", 1}, {"?", "\xff", 1}, {"?", "\n", 1}, {"?", "/", 1}, {"?", "ab", 0}, {"??", "a", 0}, {"??", "\xc3\xa4", 1}, {"?", "\xc3\xa4", 0},
		{"a*", "a", 1}, {"a*", "ba", 0}, {"*a", "ba", 1}, {"*a", "ab", 0}, {"*a*", "bab", 1}, {"*a*", "b", 0}, {"a*a", "a", 0}, {"a*a", "aa", 1}, {"a*a", "aba", 1}, {"a*a", "abab", 0},
		{"*?", "", 0}, {"?*", "", 0}, {"*?*", "a", 1}, {"*?*?*", "a", 0}, {"*??", "abc", 1}, {"a?c", "abc", 1}, {"a?c", "ac", 0},
		{"*ab", "aab", 1}, {"*ab*ab", "abab", 1}, {"*ab*ab", "aba", 0}, {"*aab", "aaaab", 1}, {"*a?b", "aacab", 0}, {"*a?b", "aaaacb", 1}, {"ab*ba", "aba", 0}, {"ab*ba", "abba", 1},
		{"*abcabd*", "abcabcabd", 1}, {"*abcabd*", "abcabcabc", 0}, {"*.txt", "a.txt.txt", 1}, {"a.c", "abc", 0}, {"a+", "aa", 0}, {"[a]", "a", 0}, {"[a]", "[a]", 1}, {"^$", "", 0},
		{"*", "*", 1}, {"?", "*", 1}, {"a*", "a*", 1}, {"a", "*", 0}, {"a", "?", 0}, {"*a", "*", 0}, {"a*b", "*", 0}, {"?*", "*", 1}, {"**?", "*", 1},
		{`\`, `\`, 1}, {`\*`, `\a`, 1}, {`\*`, "*", 0}, {`"`, `"`, 1}, {`"\"`, `"\"`, 1},
	} {
		wantRule(t, allowing(c.pattern), "al", "get", c.key, c.want)
	}
}

// That this test comes to its end says that many '*' do not take long: by trying each against each it would not.
func TestP7ManyStarsDoNotTakeLong(t *testing.T) {
	const most = 115 // of two bytes each, so that the policy is not too long
	for _, length := range []int{40, 2000, 1000000} {
		key := strings.Repeat("a", length)
		for _, c := range []struct {
			pattern string
			want    int
		}{
			{strings.Repeat("*", 2*most), 1}, {strings.Repeat("*", 2*most) + "b", 0}, {"b" + strings.Repeat("*", 2*most), 0},
			{strings.Repeat("*a", 20), 1}, {strings.Repeat("*a", 20) + "b", 0}, {strings.Repeat("*a", most) + "b", 0}, {strings.Repeat("a*", most) + "b", 0}, {strings.Repeat("*?", most) + "b", 0}, {strings.Repeat("?*", 20), 1}, {strings.Repeat("**a", 70) + "b*", 0},
			{"*" + strings.Repeat("a", 2*most) + "b", 0}, {"*" + strings.Repeat("?", 2*most) + "b*", 0}, {strings.Repeat("*aaab", 40) + "*", 0},
		} {
			wantRule(t, allowing(c.pattern), "al", "get", key, c.want)
		}
	}
}

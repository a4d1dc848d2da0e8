package json

import (
	"math/rand"
	"regexp"
	"strings"
	"testing"

	"larder/api"
)

// gaveUpWith reads a whole text and tells what the reader panicked with.
func gaveUpWith(text string) (value any) {
	defer func() { value = recover() }()
	r := reader{rest: text}
	r.readText()
	return nil
}

// The face catches whatever comes up: so here it is seen that nothing but noJSON does.
func TestReaderGivesUpByNoJSONAlone(t *testing.T) {
	for _, text := range []string{"", " ", "x", "[", "[true", "[true,", "{", `{"`, `{"a`, `{"a"`, `{"a":`, `{"a":true`, `"\`, `"\x`, "\"\x00", "true x", strings.Repeat("[", 1000000)} {
		if _, ok := gaveUpWith(text).(noJSON); !ok {
			t.Errorf("the reader of %.40q gave up with %v", text, gaveUpWith(text))
		}
	}
	r := rand.New(rand.NewSource(10))
	for range 30000 {
		text := randomText(r)
		value := gaveUpWith(text)
		if _, ok := value.(noJSON); value != nil && !ok {
			t.Errorf("the reader of %q gave up with %v", text, value)
		}
	}
}

// randomText makes texts that are JSON often enough, and often enough just not.
func randomText(r *rand.Rand) string {
	text := space(r) + randomValue(r, 0) + space(r)
	if r.Intn(3) > 0 {
		return text
	}
	at := r.Intn(len(text))
	end := min(len(text), at+r.Intn(2))
	return text[:at] + pick(r, "", "", " ", ",", ":", "[", "]", "{", "}", `"`, `\`, "true", "x", "\n", "\t", "\x7f") + text[end:]
}

func pick(r *rand.Rand, texts ...string) string { return texts[r.Intn(len(texts))] }

func space(r *rand.Rand) string { return pick(r, "", "", "", " ", "\n") }

func randomValue(r *rand.Rand, others int) string {
	scalar := pick(r, "true", "false", "null", randomString(r))
	if others > 8 {
		return scalar
	}
	switch r.Intn(6) {
	case 0:
		return scalar
	case 1, 2, 3:
		return randomList(r, "[", "]", func() string { return randomValue(r, others+1) })
	}
	return randomList(r, "{", "}", func() string {
		return randomString(r) + space(r) + ":" + space(r) + randomValue(r, others+1)
	})
}

func randomList(r *rand.Rand, begin, end string, one func() string) string {
	var list []string
	for range r.Intn(5) / 2 {
		list = append(list, space(r)+one()+space(r))
	}
	return begin + strings.Join(list, ",") + space(r) + end
}

func randomString(r *rand.Rand) string {
	return pick(r, `""`, `"a"`, `" "`, `"[,]"`, `"{:}"`, `"\""`, `"\\"`, `"true"`, `"~\\\""`)
}

var (
	tokens = regexp.MustCompile(`"(?:[ !#-\[\]-~]|\\"|\\\\)*"|true|false|null|[\[\]{},:]|[ \n]+|(?s:.)`)
	array  = regexp.MustCompile(`\[(?:[s0-9](?:,[s0-9])*)?\]`)
	object = regexp.MustCompile(`\{(?:s:[s0-9](?:,s:[s0-9])*)?\}`)
)

// byRewriting tells whether a text is JSON in another way than the reader: each value, from the innermost on, becomes one sign, which says how many stand within each other in it.
func byRewriting(text string) bool {
	signs := tokens.ReplaceAllStringFunc(text, func(token string) string {
		switch {
		case len(token) > 1 && token[0] == '"':
			return "s"
		case token == "true", token == "false", token == "null":
			return "0"
		case strings.Trim(token, " \n") == "":
			return ""
		case strings.Contains("[]{},:", token):
			return token
		}
		return "?"
	})
	for last := ""; last != signs; {
		last = signs
		signs = array.ReplaceAllStringFunc(signs, outer)
		signs = object.ReplaceAllStringFunc(signs, outer)
	}
	return signs == "s" || len(signs) == 1 && "0" <= signs && signs <= "6"
}

// outer tells the sign of what has these signs in it: one more than the greatest.
func outer(signs string) string {
	within := byte('0')
	for i := range len(signs) {
		switch sign := signs[i]; {
		case sign == 's':
			within = max(within, '1')
		case '0' <= sign && sign <= '9':
			within = max(within, min(sign+1, '9'))
		}
	}
	return string([]byte{within})
}

// write tells a value as a text without spaces.
func write(value Value) string {
	switch value := value.(type) {
	case Object:
		var members []string
		for _, member := range value {
			members = append(members, write(String(member.Name))+":"+write(member.Value))
		}
		return "{" + strings.Join(members, ",") + "}"
	case Array:
		var values []string
		for _, one := range value {
			values = append(values, write(one))
		}
		return "[" + strings.Join(values, ",") + "]"
	case String:
		return `"` + strings.NewReplacer(`\`, `\\`, `"`, `\"`).Replace(string(value)) + `"`
	case Bool:
		if value {
			return "true"
		}
		return "false"
	case Null:
		return "null"
	}
	return "none"
}

func withoutSpaces(text string) string {
	return tokens.ReplaceAllStringFunc(text, func(token string) string { return strings.Trim(token, " \n") })
}

func TestReadGoesByTheForm(t *testing.T) {
	r := rand.New(rand.NewSource(11))
	right := 0
	const rounds = 30000
	for range rounds {
		text := randomText(r)
		value, errno := Read(text)
		if !byRewriting(text) {
			if errno != api.ErrForm || value != nil {
				t.Errorf("Read(%q) = %s, %d, want ErrForm", text, write(value), errno)
			}
			continue
		}
		right++
		if write(value) != withoutSpaces(text) || errno != api.OK {
			t.Errorf("Read(%q) = %s, %d", text, write(value), errno)
		}
	}
	if right < rounds/5 || right > rounds*4/5 {
		t.Errorf("%d of %d texts were JSON: too few of one kind to tell", right, rounds)
	}
}

func TestReadTellsWhatStrings(t *testing.T) {
	for text, want := range map[string]string{`""`: "", `"a b"`: "a b", `"\""`: `"`, `"\\"`: `\`, `"\\\""`: `\"`, `"\\n"`: `\n`, ` "~" `: "~"} {
		value, errno := Read(text)
		if value != String(want) || errno != api.OK {
			t.Errorf("Read(%s) = %v, %d, want %q", text, value, errno, want)
		}
	}
}

package larder_test

import (
	"maps"
	"math/rand"
	"slices"
	"sort"
	"strconv"
	"strings"
	"testing"

	"larder/api"
	"larder/larder"
)

// event is a change that was done; model keeps nothing but these, and tells all else by going through them.
type event struct {
	letter            string
	bucket, key, text string // text: an owner, a policy, a body
	number            int    // of a version that is gone
}

func (e event) frame() string {
	short := func(text string) string { return string([]byte{byte(len(text))}) + text }
	body := e.letter + short(e.bucket)
	switch e.letter {
	case "B":
		body += short(e.text)
	case "P":
		body += sized(e.text)
	case "O":
		body += short(e.key) + sized(e.text)
	case "M":
		body += short(e.key)
	case "X":
		body += short(e.key) + "\x00\x00" + string([]byte{byte(e.number >> 8), byte(e.number)})
	}
	return frameOf(body)
}

type model struct {
	room   int
	events []event
}

func (m model) log() string {
	log := ""
	for _, e := range m.events {
		log += e.frame()
	}
	return log
}

// last finds the last event of one of these letters in a bucket.
func (m model) last(letters string, bucket string) (event, bool) {
	for i := len(m.events) - 1; i >= 0; i-- {
		if e := m.events[i]; e.bucket == bucket && strings.Contains(letters, e.letter) {
			return e, true
		}
	}
	return event{}, false
}

// numbered is an event O or M with its number.
type numbered struct {
	event
	number int
}

// versions finds what is there of a key, the latest last.
func (m model) versions(bucket, key string) []numbered {
	var found []numbered
	given := 0
	for _, e := range m.events {
		isHere := e.bucket == bucket && e.key == key
		switch e.letter {
		case "O", "M":
			given++
			if isHere {
				found = append(found, numbered{e, given})
			}
		case "X":
			found = slices.DeleteFunc(found, func(v numbered) bool { return isHere && v.number == e.number })
		}
	}
	return found
}

func (m model) given() int {
	given := 0
	for _, e := range m.events {
		if e.letter == "O" || e.letter == "M" {
			given++
		}
	}
	return given
}

// ask is a request ahead of signing it.
type ask struct {
	user, method, bucket, key, body string
	query                           map[string]string
}

func (a ask) target() string {
	target := "/" + a.bucket
	if a.key != "" {
		target += "/" + larder.Encode(a.key, true)
	}
	sign := "?"
	for _, name := range a.names() {
		target += sign + name + "=" + larder.Encode(a.query[name], false)
		sign = "&"
	}
	return target
}

func (a ask) names() []string {
	return slices.Sorted(maps.Keys(a.query))
}

// shape tells method, path and query as in the table's first columns.
func (a ask) shape() string {
	what := " bucket "
	if a.key != "" {
		what = " key "
	}
	return a.method + what + strings.Join(a.names(), " ")
}

func isIn(text string, most int) bool {
	number, err := strconv.Atoi(text)
	return err == nil && 1 <= number && number <= most && strconv.Itoa(number) == text
}

// action tells which action is asked for; none, if that is nothing that there is.
func (a ask) action() (string, bool) {
	if a.body != "" && a.method != "PUT" || a.query["policy"] != "" {
		return "", false
	}
	if version, there := a.query["version"]; there && !isIn(version, 999999999) {
		return "", false
	}
	if most, there := a.query["max"]; there && !isIn(most, 50) {
		return "", false
	}
	switch a.shape() {
	case "PUT bucket ":
		return "make", a.body == ""
	case "PUT bucket policy", "GET bucket policy", "DELETE bucket policy":
		return "policy", true
	case "GET bucket ", "GET bucket after", "GET bucket max", "GET bucket prefix", "GET bucket after max", "GET bucket after prefix", "GET bucket max prefix", "GET bucket after max prefix":
		return "list", true
	case "PUT key ":
		return "put", true
	case "GET key ", "GET key version":
		return "get", true
	case "DELETE key ", "DELETE key version":
		return "delete", true
	}
	return "", false
}

// respond tells what comes of what was signed in time.
func (m *model) respond(a ask) string {
	action, asked := a.action()
	if !asked || len(a.bucket) < 3 {
		return bad
	}
	made, isMade := m.last("B", a.bucket)
	if action == "make" {
		if isMade {
			return there
		}
		return m.do(event{letter: "B", bucket: a.bucket, text: a.user}, done)
	}
	if !isMade {
		return none
	}
	policy, _ := m.last("PU", a.bucket)
	says, _ := larder.Rule(policy.text, a.user, action, a.key)
	if says == 2 || says == 0 && a.user != made.text {
		return no
	}
	switch action {
	case "policy":
		return m.respondPolicy(a, policy.text)
	case "list":
		return m.list(a)
	}
	return m.respondKey(a)
}

// do adds an event if there is room for it.
func (m *model) do(e event, response string) string {
	if len(m.log())+len(e.frame()) > m.room {
		return full
	}
	m.events = append(m.events, e)
	return response
}

func (m *model) respondPolicy(a ask, policy string) string {
	switch {
	case a.method == "PUT" && larder.Policy(a.body) != api.OK:
		return bad
	case a.method == "PUT":
		return m.do(event{letter: "P", bucket: a.bucket, text: a.body}, done)
	case policy == "":
		return none
	case a.method == "GET":
		return toldPolicy(policy)
	}
	return m.do(event{letter: "U", bucket: a.bucket}, done)
}

func (m *model) respondKey(a ask) string {
	versions := m.versions(a.bucket, a.key)
	number, byNumber := a.query["version"]
	if byNumber {
		versions = slices.DeleteFunc(versions, func(v numbered) bool { return strconv.Itoa(v.number) != number })
	}
	switch {
	case a.method == "PUT":
		return m.do(event{letter: "O", bucket: a.bucket, key: a.key, text: a.body}, versioned(m.given()+1))
	case a.method == "DELETE" && !byNumber:
		return m.do(event{letter: "M", bucket: a.bucket, key: a.key}, versioned(m.given()+1))
	case len(versions) == 0:
		return none
	}
	latest := versions[len(versions)-1]
	switch {
	case a.method == "DELETE":
		return m.do(event{letter: "X", bucket: a.bucket, key: a.key, number: latest.number}, versioned(latest.number))
	case latest.letter == "M":
		return none
	}
	return told(latest.number, latest.text)
}

func (m *model) list(a ask) string {
	lines := map[string]string{}
	var keys []string
	for _, e := range m.events {
		versions := m.versions(a.bucket, e.key)
		if lines[e.key] != "" || e.key <= a.query["after"] || !strings.HasPrefix(e.key, a.query["prefix"]) || len(versions) == 0 {
			continue
		}
		if latest := versions[len(versions)-1]; latest.letter == "O" {
			lines[e.key] = larder.Encode(e.key, false) + " " + strconv.Itoa(latest.number) + " " + strconv.Itoa(len(latest.text))
			keys = append(keys, e.key)
		}
	}
	sort.Strings(keys)
	most := 10
	if _, there := a.query["max"]; there {
		most, _ = strconv.Atoi(a.query["max"])
	}
	var told []string
	for _, key := range keys[:min(most, len(keys))] {
		told = append(told, lines[key])
	}
	return listed(len(keys) > most, told...)
}

// randomAsk asks mostly for what there may be, in a few buckets, and seldom for what is in no table.
func randomAsk(r *rand.Rand) ask {
	pick := func(texts ...string) string { return texts[r.Intn(len(texts))] }
	a := ask{user: pick("al", "al", "al", "al", "bo", "cy"), method: pick("GET", "PUT", "DELETE"), bucket: pick("box", "box", "box", "bos", "b-9"), query: map[string]string{}}
	switch r.Intn(8) {
	case 0:
		a.method = "PUT"
	case 1:
		a.query["policy"] = ""
		if a.method == "PUT" {
			a.body = pick(randomPolicy(r), randomPolicy(r), emptyPolicy, "x")
		}
	case 2:
		a.method = "GET"
		a.query = randomPage(r)
	default:
		a.key = pick("a", "a", "b", "a/b", "a b", "c")
		if a.method == "PUT" {
			a.body = pick("", "x", "body", strings.Repeat("\n", 40))
		} else if r.Intn(2) == 0 {
			a.query["version"] = strconv.Itoa(1 + r.Intn(10))
		}
	}
	if r.Intn(10) == 0 {
		spoil(r, &a)
	}
	return a
}

func randomPage(r *rand.Rand) map[string]string {
	pick := func(texts ...string) string { return texts[r.Intn(len(texts))] }
	query := map[string]string{"prefix": pick("", "a", "a/", "b"), "after": pick("", "a", "a b", "b", "\xff"), "max": pick("1", "2", "3", "50")}
	for _, name := range []string{"prefix", "after", "max"} {
		if r.Intn(2) == 0 {
			delete(query, name)
		}
	}
	return query
}

// spoil changes something of what is asked for, so that it is mostly in no table.
func spoil(r *rand.Rand, a *ask) {
	pick := func(texts ...string) string { return texts[r.Intn(len(texts))] }
	switch r.Intn(6) {
	case 0:
		a.method = pick("GET", "PUT", "DELETE")
	case 1:
		a.body = pick("x", "")
	case 2:
		a.key = pick("a", "")
	case 3:
		a.bucket = "no"
	case 4:
		a.query[pick("odd", "policy", "prefix", "version", "max")] = pick("", "x", "0", "1", "01")
	case 5:
		for _, name := range a.names() {
			a.query[name] = pick("", "x", "0", "01", "51", "1000000000", "999999999")
		}
	}
}

// randomPolicy lets others in, and seldom keeps the owner out.
func randomPolicy(r *rand.Rand) string {
	pick := func(texts ...string) string { return texts[r.Intn(len(texts))] }
	who, do, on := pick(`["bo"]`, `["*"]`, `["cy","bo"]`), pick(`["*"]`, `["get","list"]`, `["put"]`, `["delete","policy"]`), pick(`["*"]`, `["a*"]`, `["?"]`, `[""]`)
	list := []string{ruleOf("allow", who, do, on)}
	if r.Intn(3) == 0 {
		list = append(list, ruleOf("deny", pick(`["cy"]`, `["bo"]`, `["al"]`), pick(`["get"]`, `["put"]`, `["list"]`), pick(`["a"]`, `["*b"]`)))
	}
	return policyOf(list...)
}

// signedAtRandom signs by header or by query, at a second that is in time.
func signedAtRandom(r *rand.Rand, a ask) string {
	if r.Intn(2) == 0 {
		return byHeader(a.user, noon-900+r.Intn(1801), a.method, a.target(), a.body)
	}
	second := r.Intn(noon + 901)
	return byQuery(a.user, second, max(1, noon-second+1)+r.Intn(2), a.method, a.target(), a.body)
}

// spoiled turns one digit of the signature.
func spoiled(text string) string {
	at := strings.Index(text, "x-sig=") + 6
	if at < 6 {
		at = strings.Index(text, "auth:")
		at += strings.Index(text[at:], "\n") - 64
	}
	digit := byte('0')
	if text[at] == '0' {
		digit = '1'
	}
	return text[:at] + string(digit) + text[at+1:]
}

func TestP9StoresGoAsTheModel(t *testing.T) {
	r := rand.New(rand.NewSource(18))
	seen, doneOf := map[string]int{}, map[string]int{}
	for round := range 240 {
		m := model{room: 200 + r.Intn(500)}
		if round%3 == 0 {
			m.room = 20000
		}
		s := newStore(t, m.room)
		for range 150 {
			a := randomAsk(r)
			text := signedAtRandom(r, a)
			if r.Intn(20) == 0 {
				wantDo(t, s, spoiled(text), no)
			}
			want := m.respond(a)
			seen[want[:3]]++
			if want[:3] == "200" {
				doneOf[a.shape()]++
			}
			if got := s.Do(text); got != want {
				t.Fatalf("behind %+v: Do(%q) = %q, want %q", m.events, text, got, want)
			}
			if log := s.Log(); log != m.log() {
				t.Fatalf("%q: the log is %q, want %q", text, log, m.log())
			}
			if r.Intn(10) == 0 {
				s = openStore(t, m.room, s.Log())
			}
		}
	}
	for _, number := range []string{"200", "400", "403", "404", "409", "507"} {
		if seen[number] < 200 {
			t.Errorf("%s was the answer %d times: too few to tell", number, seen[number])
		}
	}
	// Nine rows, the list with each choice of three pairs, and get with and without a version.
	if len(doneOf) != 9+7+1 {
		t.Errorf("these were done: %v", doneOf)
	}
}

// probe is a request that changes nothing, ready to be sent.
type probe struct {
	ask  ask
	text string
}

// probes asks in all ways what there is, as each user.
func probes() []probe {
	var asks []ask
	for _, user := range []string{"al", "bo", "cy"} {
		for _, bucket := range []string{"box", "bos", "b-9"} {
			asks = append(asks, ask{user: user, bucket: bucket, query: map[string]string{"policy": ""}}, ask{user: user, bucket: bucket, query: map[string]string{"max": "50"}})
			for _, key := range []string{"a", "b", "a/b", "a b", "c"} {
				asks = append(asks, ask{user: user, bucket: bucket, key: key})
				for number := 1; number <= 10; number++ {
					asks = append(asks, ask{user: user, bucket: bucket, key: key, query: map[string]string{"version": strconv.Itoa(number)}})
				}
			}
		}
	}
	var list []probe
	for _, a := range asks {
		a.method = "GET"
		list = append(list, probe{a, byHeader(a.user, noon, a.method, a.target(), a.body)})
	}
	return list
}

// wantAsModel holds all that a store tells against a model.
func wantAsModel(t *testing.T, s *larder.Store, m model, probes []probe) {
	t.Helper()
	for _, probe := range probes {
		if got, want := s.Do(probe.text), m.respond(probe.ask); got != want {
			t.Fatalf("behind %+v: Do(%q) = %q, want %q", m.events, probe.text, got, want)
		}
	}
	if s.Log() != m.log() {
		t.Fatalf("the log is %q, want %q", s.Log(), m.log())
	}
}

// The log is cut at every byte: the store is what it was behind the last call whose frame is whole.
func TestP12WhateverIsLeftOfTheLog(t *testing.T) {
	r := rand.New(rand.NewSource(19))
	probes := probes()
	for range 8 {
		m := model{room: 20000}
		for len(m.events) < 14 {
			m.respond(randomAsk(r))
		}
		log := m.log()
		for whole := range m.events {
			left := model{room: 20000, events: m.events[:whole]}
			begin := len(left.log())
			end := begin + len(m.events[whole].frame())
			for cut := begin; cut < end; cut++ {
				wantOpen(t, log[:cut], begin)
			}
			wantAsModel(t, openStore(t, 20000, log[:begin+r.Intn(end-begin)]), left, probes)
		}
		wantAsModel(t, openStore(t, 20000, log), m, probes)
	}
}

// What is left of a log is gone on with, as if the call that was cut had not been.
func TestP12GoingOnBehindACut(t *testing.T) {
	r := rand.New(rand.NewSource(20))
	for range 60 {
		m := model{room: 20000}
		s := newStore(t, m.room)
		for range 30 {
			before := m
			before.events = slices.Clone(m.events)
			a := randomAsk(r)
			m.respond(a)
			s.Do(signedAtRandom(r, a))
			if old := len(before.log()); r.Intn(4) == 0 && len(s.Log()) > old {
				m = before
				s = openStore(t, m.room, s.Log()[:old+r.Intn(len(s.Log())-old)])
			}
		}
		for range 10 {
			a := randomAsk(r)
			wantDo(t, s, signedAtRandom(r, a), m.respond(a))
		}
	}
}

// Two stores differ in the bodies in al's buckets, which have no policy: to bo and cy, and to who signs nothing, they are one.
func TestP13NothingComesToOthers(t *testing.T) {
	r := rand.New(rand.NewSource(21))
	for range 60 {
		m := model{room: 600 + r.Intn(3000)}
		for range 60 {
			a := randomAsk(r)
			if _, isPolicy := a.query["policy"]; !isPolicy || a.user != "al" {
				m.respond(a)
			}
		}
		other := model{room: m.room, events: slices.Clone(m.events)}
		for i, e := range other.events {
			owner, _ := m.last("B", e.bucket)
			if e.letter == "O" && owner.text == "al" {
				other.events[i].text = strings.Repeat("z", len(e.text))
			}
		}
		one, two := openStore(t, m.room, m.log()), openStore(t, m.room, other.log())
		begin := len(m.log())
		for range 60 {
			a := randomAsk(r)
			text := signedAtRandom(r, a)
			if a.user == "al" {
				text = spoiled(text)
			}
			if first, second := one.Do(text), two.Do(text); first != second {
				t.Fatalf("Do(%q) = %q of one, %q of the other", text, first, second)
			}
			if one.Log()[begin:] != two.Log()[begin:] {
				t.Fatalf("Do(%q): the logs go on in two ways", text)
			}
		}
		if one.Log()[:begin] != m.log() || two.Log()[:begin] != other.log() {
			t.Fatalf("what was in the logs has changed")
		}
	}
}

// Each row of the table, signed in each way, at the first second and at the last.
func TestP14WhatIsSignedIsDone(t *testing.T) {
	asks := []ask{
		{method: "PUT", bucket: "new"}, {method: "PUT", bucket: "box", query: map[string]string{"policy": ""}, body: emptyPolicy}, {method: "GET", bucket: "box", query: map[string]string{"policy": ""}}, {method: "DELETE", bucket: "box", query: map[string]string{"policy": ""}},
		{method: "GET", bucket: "box"}, {method: "GET", bucket: "box", query: map[string]string{"max": "1", "after": "a", "prefix": "k"}}, {method: "PUT", bucket: "box", key: "k", body: "x"}, {method: "PUT", bucket: "box", key: "k"},
		{method: "GET", bucket: "box", key: "k"}, {method: "GET", bucket: "box", key: "k", query: map[string]string{"version": "1"}}, {method: "DELETE", bucket: "box", key: "k"}, {method: "DELETE", bucket: "box", key: "k", query: map[string]string{"version": "1"}},
	}
	all := policyOf(ruleOf("allow", `["bo"]`, `["*"]`, `["*"]`))
	for _, a := range asks {
		for _, user := range []string{"al", "bo"} {
			for _, text := range []string{
				byHeader(user, noon-900, a.method, a.target(), a.body), byHeader(user, noon+900, a.method, a.target(), a.body),
				byQuery(user, noon+900, 1, a.method, a.target(), a.body), byQuery(user, 0, noon+1, a.method, a.target(), a.body), byQuery(user, noon, 604800, a.method, a.target(), a.body),
			} {
				s := openStore(t, 20000, framesOf("B\x03box\x02al", "P\x03box"+sized(all), "O\x03box\x01k\x00\x02hi"))
				if got := s.Do(text); !strings.HasPrefix(got, "200 OK\n") {
					t.Errorf("Do(%q) = %q", text, got)
				}
			}
		}
	}
}

package larder_test

import (
	"strings"
	"testing"

	"larder/larder"
)

func TestP9Example5(t *testing.T) {
	s := newStore(t, 200)
	wantSteps(t, s,
		step{"al", "PUT", "/box", "", "200 OK\n\n"},
		step{"al", "PUT", "/box/a%20key", "hi", "200 OK\nversion: 1\n\n"},
		step{"al", "GET", "/box/a%20key", "", "200 OK\nversion: 1\nlength: 2\n\nhi"},
	)
}

func TestP9RequestsThatAreNone(t *testing.T) {
	s := newStore(t, 200)
	for _, text := range []string{"", "x", "GET", "GET /", "GET /\n", "POST /\n\n", "GET box\n\n", "PUT /box\n\nhi", "GET /%6\n\n", "GET /?a&a\n\n", strings.Repeat("x", 2000), "PUT /box\nlength: 302\n\n" + strings.Repeat("b", 301)} {
		wantDo(t, s, text, bad)
	}
	for _, text := range []string{strings.Repeat("x", 2001), strings.Repeat("\n", 3000000), "PUT /box\nlength: 301\n\n" + strings.Repeat("b", 301), unsigned("PUT", "/box/k", "", strings.Repeat("b", 1900))} {
		wantDo(t, s, text, long)
	}
}

func TestP9MakingBuckets(t *testing.T) {
	s := newStore(t, 20000)
	wantSteps(t, s,
		step{"al", "PUT", "/box", "x", bad},
		step{"al", "GET", "/box", "", none},
		step{"al", "PUT", "/box", "", done},
		step{"al", "PUT", "/box", "", there},
		step{"bo", "PUT", "/box", "", there},
		step{"bo", "PUT", "/box", "x", bad},
		step{"bo", "PUT", "/b%6fx", "", there},
		step{"bo", "PUT", "/bos", "", done},
		step{"bo", "GET", "/bos", "", listed(false)},
		step{"al", "GET", "/bos", "", no},
		step{"bo", "GET", "/box", "", no},
		step{"cy", "PUT", "/---", "", done},
		step{"cy", "PUT", "/" + strings.Repeat("9", 20), "", done},
	)
	for _, path := range []string{"/", "//", "/bo", "/Box", "/b_x", "/box%00", "/" + strings.Repeat("b", 21), "//box", "/%2Fbox", "/box/", "/b%20x"} {
		wantSteps(t, s, step{"al", "PUT", path, "", bad}, step{"al", "GET", path, "", bad}, step{"al", "DELETE", path + "?policy", "", bad}, step{"al", "PUT", path + "?policy", emptyPolicy, bad})
	}
}

func TestP9Policies(t *testing.T) {
	s := newStore(t, 20000)
	wide := " \n" + emptyPolicy + strings.Repeat(" ", 286)
	wantSteps(t, s,
		step{"al", "PUT", "/box?policy", emptyPolicy, none},
		step{"al", "GET", "/box?policy", "", none},
		step{"al", "DELETE", "/box?policy", "", none},
		step{"al", "PUT", "/box", "", done},
		step{"al", "GET", "/box?policy", "", none},
		step{"al", "DELETE", "/box?policy", "", none},
		step{"al", "PUT", "/box?policy", emptyPolicy, done},
		step{"al", "GET", "/box?policy", "", toldPolicy(emptyPolicy)},
		step{"al", "PUT", "/box?policy=", wide, done},
		step{"al", "GET", "/box?policy=", "", toldPolicy(wide)},
		step{"al", "PUT", "/box?policy", "", bad},
		step{"al", "PUT", "/box?policy", "x", bad},
		step{"al", "PUT", "/box?policy", "{}", bad},
		step{"al", "GET", "/box?policy", "", toldPolicy(wide)},
		step{"bo", "GET", "/box?policy", "", no},
		step{"bo", "PUT", "/box?policy", emptyPolicy, no},
		step{"bo", "PUT", "/box?policy", "x", no},
		step{"bo", "DELETE", "/box?policy", "", no},
		step{"al", "DELETE", "/box?policy", "", done},
		step{"al", "GET", "/box?policy", "", none},
		step{"al", "DELETE", "/box?policy", "", none},
		step{"bo", "DELETE", "/box?policy", "", no},
	)
}

func TestP9Versions(t *testing.T) {
	s := newStore(t, 20000)
	most := strings.Repeat("b", 300)
	wantSteps(t, s,
		step{"al", "PUT", "/box", "", done},
		step{"al", "PUT", "/bin", "", done},
		step{"bo", "PUT", "/bos", "", done},
		step{"al", "GET", "/box/k", "", none},
		step{"al", "GET", "/box/k?version=1", "", none},
		step{"al", "PUT", "/box/k", "one", versioned(1)},
		step{"al", "PUT", "/bin/k", "two", versioned(2)},
		step{"bo", "PUT", "/bos/k", "", versioned(3)},
		step{"al", "PUT", "/box/k", most, versioned(4)},
		step{"al", "PUT", "/box/K", "\x00\n\xff", versioned(5)},
		step{"al", "GET", "/box/k", "", told(4, most)},
		step{"al", "GET", "/box/k?version=4", "", told(4, most)},
		step{"al", "GET", "/box/k?version=1", "", told(1, "one")},
		step{"al", "GET", "/bin/k", "", told(2, "two")},
		step{"bo", "GET", "/bos/k", "", told(3, "")},
		step{"al", "GET", "/box/K", "", told(5, "\x00\n\xff")},
		step{"al", "GET", "/box/k?version=2", "", none}, // of another bucket
		step{"al", "GET", "/box/k?version=5", "", none}, // of another key
		step{"al", "GET", "/box/k?version=999999999", "", none},
		step{"al", "GET", "/box/none", "", none},
		step{"al", "DELETE", "/box/k", "", versioned(6)},
		step{"al", "GET", "/box/k", "", none},
		step{"al", "GET", "/box/k?version=6", "", none},
		step{"al", "GET", "/box/k?version=4", "", told(4, most)},
		step{"al", "DELETE", "/box/k", "", versioned(7)},
		step{"al", "DELETE", "/box/k?version=7", "", versioned(7)},
		step{"al", "GET", "/box/k", "", none},
		step{"al", "DELETE", "/box/k?version=7", "", none},
		step{"al", "DELETE", "/box/k?version=2", "", none},
		step{"al", "DELETE", "/box/k?version=5", "", none},
		step{"al", "DELETE", "/box/k?version=999999999", "", none},
		step{"al", "DELETE", "/box/k?version=1", "", versioned(1)},
		step{"al", "DELETE", "/box/k?version=6", "", versioned(6)},
		step{"al", "GET", "/box/k", "", told(4, most)},
		step{"al", "DELETE", "/box/k?version=4", "", versioned(4)},
		step{"al", "GET", "/box/k", "", none},
		step{"al", "DELETE", "/box/k?version=4", "", none},
		step{"al", "DELETE", "/box/never", "", versioned(8)},
		step{"al", "GET", "/box/never", "", none},
		step{"al", "PUT", "/box/k", "again", versioned(9)}, // a number that was given is not given again
		step{"al", "GET", "/bin/k", "", told(2, "two")},
	)
}

func TestP9Keys(t *testing.T) {
	s := newStore(t, 20000)
	wantSteps(t, s, step{"al", "PUT", "/box", "", done})
	for i, key := range []string{"a", "%20", "~", "/", "//", "a/b", "%22%5C%2A%3F", ".", "..", strings.Repeat("k", 40), "box", "%25"} {
		body := "of " + key
		wantSteps(t, s, step{"al", "PUT", "/box/" + key, body, versioned(i + 1)}, step{"al", "GET", "/box/" + key, "", told(i+1, body)})
	}
	wantSteps(t, s, step{"al", "GET", "/box/a%2fb", "", told(6, "of a/b")}, step{"al", "GET", "/box%2Fa%2fb", "", told(6, "of a/b")}, step{"al", "GET", "/%62ox/%61", "", told(1, "of a")})
	for _, key := range []string{"", "%1F", "%7F", "%00", "%0A", "%C3%A4", "%FF", strings.Repeat("k", 41)} {
		wantSteps(t, s, step{"al", "PUT", "/box/" + key, "", bad}, step{"al", "GET", "/box/" + key, "", bad}, step{"al", "DELETE", "/box/" + key, "", bad}, step{"al", "DELETE", "/box/" + key + "?version=1", "", bad})
	}
}

// What asks for nothing is refused ahead of telling whether there is a bucket, and whose.
func TestP9NothingThatThereIs(t *testing.T) {
	s := withBox(t)
	for _, ask := range [][2]string{
		{"PUT", "?odd"}, {"PUT", "?version=1"}, {"PUT", "?policy=x"}, {"PUT", "?policy&max=1"}, {"PUT", "?policy&odd"}, {"PUT", "?prefix=a"}, {"PUT", "?Policy"}, {"PUT", "?policy%20"},
		{"GET", "?odd"}, {"GET", "?policy=x"}, {"GET", "?policy&prefix"}, {"GET", "?policy&version=1"}, {"GET", "?version=1"}, {"GET", "?prefix&odd"},
		{"GET", "?max"}, {"GET", "?max=0"}, {"GET", "?max=51"}, {"GET", "?max=01"}, {"GET", "?max=-1"}, {"GET", "?max=%2B1"}, {"GET", "?max=1.0"}, {"GET", "?max=a"}, {"GET", "?max=1%20"}, {"GET", "?max=99999999999999999999"}, {"GET", "?max=10&odd"},
		{"DELETE", ""}, {"DELETE", "?prefix=a"}, {"DELETE", "?policy=1"}, {"DELETE", "?policy&version=1"}, {"DELETE", "?version=1"}, {"DELETE", "?odd"},
		{"PUT", "/k?version=1"}, {"PUT", "/k?policy"}, {"PUT", "/k?odd"}, {"PUT", "/k?max=1"},
		{"GET", "/k?policy"}, {"GET", "/k?prefix"}, {"GET", "/k?max=1"}, {"GET", "/k?version=1&odd"}, {"GET", "/k?version=1&policy"},
		{"GET", "/k?version"}, {"GET", "/k?version=0"}, {"GET", "/k?version=01"}, {"GET", "/k?version=-1"}, {"GET", "/k?version=%2B1"}, {"GET", "/k?version=1000000000"}, {"GET", "/k?version=x"}, {"GET", "/k?version=1%20"}, {"GET", "/k?version=99999999999999999999"},
		{"DELETE", "/k?policy"}, {"DELETE", "/k?odd"}, {"DELETE", "/k?version"}, {"DELETE", "/k?version=0"}, {"DELETE", "/k?version=01"}, {"DELETE", "/k?version=1000000000"}, {"DELETE", "/k?version=1&odd"},
	} {
		for _, user := range []string{"al", "bo"} {
			wantSteps(t, s, step{user, ask[0], "/box" + ask[1], "", bad}, step{user, ask[0], "/none" + ask[1], "", bad})
		}
	}
	for _, ask := range [][2]string{{"GET", ""}, {"GET", "?max=1"}, {"GET", "?policy"}, {"DELETE", "?policy"}, {"GET", "/k"}, {"GET", "/k?version=1"}, {"DELETE", "/k"}, {"DELETE", "/k?version=1"}, {"PUT", ""}} {
		for _, user := range []string{"al", "bo"} {
			wantSteps(t, s, step{user, ask[0], "/box" + ask[1], "x", bad}, step{user, ask[0], "/none" + ask[1], "x", bad})
		}
	}
	wantDo(t, s, byHeader("al", noon, "GET", "/box/k", ""), told(1, "hi"))
}

// filled makes a store of al's bucket box whose log has no byte left.
func filled(t *testing.T) *larder.Store {
	t.Helper()
	s := newStore(t, 200)
	wantSteps(t, s, step{"al", "PUT", "/box", "", done}, step{"al", "PUT", "/box/k", strings.Repeat("b", 171), versioned(1)})
	if len(s.Log()) != 200 {
		t.Fatalf("the log has %d bytes, want 200", len(s.Log()))
	}
	return s
}

// Of several refusals the first is the answer: here each row has one reason less than the row ahead of it.
func TestP9TheFirstRefusalIsTheAnswer(t *testing.T) {
	s := filled(t)
	longBody := strings.Repeat("b", 301)
	wantDo(t, s, "PUT /BOX?odd\n"+longBody+strings.Repeat("\n", 2000), long)
	wantDo(t, s, "PUT /BOX?odd\nlength: 1\n\n"+longBody, bad)
	wantDo(t, s, unsigned("PUT", "/BOX?odd", "", longBody), long)
	wantDo(t, s, unsigned("PUT", "/BOX?odd", "", "x"), no)
	wantSteps(t, s,
		step{"bo", "PUT", "/BOX?odd", "x", bad},
		step{"bo", "PUT", "/none?policy=x", "x", bad},
		step{"bo", "PUT", "/none?policy", "x", none},
		step{"bo", "PUT", "/box?policy", "x", no},
		step{"al", "PUT", "/box?policy", "x", bad},
		step{"al", "PUT", "/box?policy", emptyPolicy, full},

		step{"al", "PUT", "/box", "x", bad},
		step{"al", "PUT", "/box", "", there},
		step{"bo", "PUT", "/bin", "", full},

		step{"bo", "DELETE", "/none?policy", "x", bad},
		step{"bo", "DELETE", "/none?policy", "", none},
		step{"bo", "DELETE", "/box?policy", "", no},
		step{"al", "DELETE", "/box?policy", "", none},

		step{"bo", "GET", "/none?policy", "x", bad},
		step{"bo", "GET", "/none?policy", "", none},
		step{"bo", "GET", "/box?policy", "", no},
		step{"al", "GET", "/box?policy", "", none},

		step{"bo", "GET", "/none?max=0", "", bad},
		step{"bo", "GET", "/none?max=1", "", none},
		step{"bo", "GET", "/box?max=1", "", no},
		step{"al", "GET", "/box?max=1", "", listed(false, "k 1 171")},

		step{"bo", "PUT", "/none/k?odd", "x", bad},
		step{"bo", "PUT", "/none/k", "x", none},
		step{"bo", "PUT", "/box/k", "x", no},
		step{"al", "PUT", "/box/k", "x", full},

		step{"bo", "GET", "/none/j?version=0", "", bad},
		step{"bo", "GET", "/none/j", "", none},
		step{"bo", "GET", "/box/j", "", no},
		step{"al", "GET", "/box/j", "", none},

		step{"bo", "DELETE", "/none/j", "x", bad},
		step{"bo", "DELETE", "/none/j", "", none},
		step{"bo", "DELETE", "/box/j", "", no},
		step{"al", "DELETE", "/box/j", "", full},

		step{"bo", "DELETE", "/none/j?version=0", "", bad},
		step{"bo", "DELETE", "/none/j?version=1", "", none},
		step{"bo", "DELETE", "/box/j?version=1", "", no},
		step{"al", "DELETE", "/box/j?version=1", "", none},
		step{"al", "DELETE", "/box/k?version=1", "", full},
	)
}

func TestP9AFullLogChangesNothing(t *testing.T) {
	s := filled(t)
	log := s.Log()
	wantSteps(t, s,
		step{"al", "PUT", "/bin", "", full}, step{"al", "GET", "/bin", "", none},
		step{"al", "PUT", "/box?policy", emptyPolicy, full}, step{"al", "GET", "/box?policy", "", none},
		step{"al", "PUT", "/box/k", "", full}, step{"al", "PUT", "/box/new", "", full}, step{"al", "GET", "/box/new", "", none},
		step{"al", "DELETE", "/box/k", "", full}, step{"al", "DELETE", "/box/k?version=1", "", full},
		step{"al", "GET", "/box/k", "", told(1, strings.Repeat("b", 171))}, step{"al", "GET", "/box", "", listed(false, "k 1 171")},
	)
	if s.Log() != log {
		t.Errorf("the log was %q, and is %q", log, s.Log())
	}
	// Numbers, too, are as if nothing had been asked for.
	s = newStore(t, 200)
	wantSteps(t, s, step{"al", "PUT", "/box", "", done}, step{"al", "PUT", "/box/k", strings.Repeat("b", 300), full}, step{"al", "PUT", "/box/k", "b", versioned(1)},
		step{"al", "PUT", "/box/k", strings.Repeat("b", 300), full}, step{"al", "DELETE", "/box/k", "", versioned(2)}, step{"al", "PUT", "/box?policy", emptyPolicy + strings.Repeat(" ", 200), full}, step{"al", "PUT", "/box/j", "", versioned(3)})
}

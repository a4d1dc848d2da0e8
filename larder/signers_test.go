package larder_test

import (
	"strconv"
	"strings"
	"testing"

	"larder/api"
	"larder/larder"
)

// withBox makes a store in which al has the bucket box, and in it the key k with the body "hi".
func withBox(t *testing.T) *larder.Store {
	t.Helper()
	s := newStore(t, 20000)
	wantSteps(t, s, step{"al", "PUT", "/box", "", done}, step{"al", "PUT", "/box/k", "hi", versioned(1)})
	return s
}

func TestP9SignedInTimeByHeader(t *testing.T) {
	s := withBox(t)
	for second, want := range map[int]string{
		noon: told(1, "hi"), noon - 900: told(1, "hi"), noon + 900: told(1, "hi"), noon - 901: no, noon + 901: no, 0: no, api.MaxClock: no,
	} {
		wantDo(t, s, byHeader("al", second, "GET", "/box/k", ""), want)
	}
	late, _ := larder.New(configOf(200, api.MaxClock))
	wantDo(t, late, byHeader("al", api.MaxClock, "PUT", "/box", ""), done)
	wantDo(t, late, byHeader("al", api.MaxClock-900, "GET", "/box", ""), listed(false))
	wantDo(t, late, byHeader("al", api.MaxClock+1, "GET", "/box", ""), no)
	early, _ := larder.New(configOf(200, 0))
	wantDo(t, early, byHeader("al", 0, "PUT", "/box", ""), done)
	wantDo(t, early, byHeader("al", 900, "GET", "/box", ""), listed(false))
	wantDo(t, early, byHeader("al", 901, "GET", "/box", ""), no)
}

func TestP9SignedInTimeByQuery(t *testing.T) {
	s := withBox(t)
	for _, c := range []struct {
		second, length int
		want           string
	}{
		{noon, 1, told(1, "hi")}, {noon, 604800, told(1, "hi")}, {noon + 900, 1, told(1, "hi")}, {noon - 1, 2, told(1, "hi")}, {noon - 901, 902, told(1, "hi")}, {0, noon + 1, told(1, "hi")},
		{noon, 0, no}, {noon + 1, 0, no}, {noon + 900, 0, no}, {noon + 900, -1, no}, {noon, -1, no}, {noon, 604801, no}, {noon + 901, 1, no}, {noon + 901, 604800, no}, {noon - 1, 1, no}, {noon - 901, 901, no}, {0, noon, no}, {api.MaxClock, 1, no}, {api.MaxClock + 1, 604800, no},
	} {
		wantDo(t, s, byQuery("al", c.second, c.length, "GET", "/box/k", ""), c.want)
	}
	late, _ := larder.New(configOf(200, api.MaxClock))
	wantDo(t, late, byQuery("al", api.MaxClock, 1, "PUT", "/box", ""), done)
	wantDo(t, late, byQuery("al", api.MaxClock-604799, 604800, "GET", "/box", ""), listed(false))
	wantDo(t, late, byQuery("al", api.MaxClock-604800, 604800, "GET", "/box", ""), no)
	wantDo(t, late, byQuery("al", api.MaxClock+1, 604800, "GET", "/box", ""), no)
}

func TestP9TimeRunsOut(t *testing.T) {
	s := withBox(t)
	header, query := byHeader("al", noon, "GET", "/box/k", ""), byQuery("al", noon, 1000, "GET", "/box/k", "")
	for _, c := range []struct {
		seconds               int
		wantHeader, wantQuery string
	}{{900, told(1, "hi"), told(1, "hi")}, {1, no, told(1, "hi")}, {98, no, told(1, "hi")}, {1, no, no}, {100000, no, no}} {
		s.Tick(c.seconds)
		wantDo(t, s, header, c.wantHeader)
		wantDo(t, s, query, c.wantQuery)
	}
}

func TestP9OnlyUsersOfTheConfigurationSign(t *testing.T) {
	s := withBox(t)
	for _, user := range []string{"dee", "", "a", "all", "AL", "al;bo", "*"} {
		wantDo(t, s, byHeader(user, noon, "PUT", "/bin", ""), no)
		wantDo(t, s, byQuery(larder.Encode(user, false), noon, 9, "PUT", "/bin", ""), no)
	}
	for i, user := range []string{"al", "bo", "cy"} {
		wantDo(t, s, byHeader(user, noon, "PUT", "/bin"+strconv.Itoa(i), ""), done)
		wantDo(t, s, byQuery(user, noon, 9, "PUT", "/ban"+strconv.Itoa(i), ""), done)
	}
	// One user's secret is no other's.
	proof := signatureOf("bo", noon, unsigned("PUT", "/bin", "", ""), "host")
	wantDo(t, s, unsigned("PUT", "/bin", "auth: L1 al 5000 host "+proof+"\n", ""), no)
	wantDo(t, s, unsigned("PUT", "/bin", "auth: L1 bo 5000 host "+proof+"\n", ""), done)
}

func TestP9UnsignedRequests(t *testing.T) {
	s := withBox(t)
	wantDo(t, s, unsigned("GET", "/box/k", "", ""), no)
	wantDo(t, s, unsigned("GET", "/box/k", "auth: \n", ""), no)
	proof := signatureOf("al", noon, unsigned("GET", "/box/k", "", ""), "host")
	for _, value := range []string{
		"L1 al 5000 host " + proof + " ", " L1 al 5000 host " + proof, "L1  al 5000 host " + proof, "L1 al  5000 host " + proof, "L1 al 5000  host " + proof, "L1 al 5000 host  " + proof,
		"L1 al 5000 host " + proof + " more", "L1 al 5000 host", "L1 al 5000 " + proof, "al 5000 host " + proof, "L1", "L1 al 5000 host ", "L1    ",
		"L2 al 5000 host " + proof, "l1 al 5000 host " + proof, "1 al 5000 host " + proof, "L1 al 05000 host " + proof, "L1 al +5000 host " + proof, "L1 al 5e3 host " + proof, "L1 al 5000.0 host " + proof, "L1 al -5000 host " + proof, "L1 al  host " + proof,
		"L1 al 5001 host " + proof, "L1 al 4999 host " + proof, "L1 al 5000 Host " + proof, "L1 al 5000  " + proof, "L1 al 5000 host; " + proof, "L1 al 5000 auth;host " + proof, "L1 al 5000 none " + proof,
		"L1 al 5000 host " + strings.ToUpper(proof), "L1 al 5000 host " + proof[:63], "L1 al 5000 host " + proof + "0", "L1 al 5000 host 0" + proof[1:] + "0", "L1 al 99999999999999999999 host " + proof,
	} {
		wantDo(t, s, unsigned("GET", "/box/k", "auth: "+value+"\n", ""), no)
	}
	wantDo(t, s, unsigned("GET", "/box/k", "auth: L1 al 5000 host "+proof+"\n", ""), told(1, "hi"))
}

// What is no number is not taken for 0, at which the signature would be right.
func TestP9SecondsThatAreNone(t *testing.T) {
	s, _ := larder.New(configOf(200, 0))
	proof := signatureOf("al", 0, unsigned("PUT", "/box", "", ""), "host")
	for _, second := range []string{"", "00", "-0", "+0", "x", "1000000000001", "99999999999999999999"} {
		wantDo(t, s, unsigned("PUT", "/box", "auth: L1 al "+second+" host "+proof+"\n", ""), no)
		wantDo(t, s, querySigned("al", 0, "/box?x-user=al&x-time="+larder.Encode(second, false)+"&x-for=9&x-list=host", "host"), no)
		wantDo(t, s, querySigned("al", 0, "/box?x-user=al&x-time=0&x-for="+larder.Encode(second, false)+"&x-list=host", "host"), no)
	}
	wantDo(t, s, unsigned("PUT", "/box", "auth: L1 al 0 host "+proof+"\n", ""), done)
	wantDo(t, s, querySigned("al", 0, "/box?x-user=al&x-time=0&x-for=9&x-list=host", "host"), listed(false))
}

// Each byte of a signature counts, and each bit of it.
func TestP9EachByteOfASignatureCounts(t *testing.T) {
	s := withBox(t)
	text := byHeader("al", noon, "GET", "/box/k", "")
	end := strings.LastIndex(text, "\n\n")
	for at := end - 64; at < end; at++ {
		for _, b := range []byte("0123456789abcdefABCDEF") {
			if text[at] != b {
				wantDo(t, s, text[:at]+string(b)+text[at+1:], no)
			}
		}
	}
	wantDo(t, s, text, told(1, "hi"))
}

func TestP9WhatIsSignedIsWhatIsAsked(t *testing.T) {
	s := withBox(t)
	header := byHeader("al", noon, "PUT", "/box/k?a=1", "hi")
	query := byQuery("al", noon, 9, "PUT", "/box/k?a=1", "hi")
	for _, text := range []string{header, query} {
		wantDo(t, s, text, bad) // signed, but there is no such thing to ask for
		for _, c := range [][2]string{
			{"PUT", "DELETE"}, {"PUT", "GET"}, {"/box/k", "/box/l"}, {"/box/k", "/box"}, {"a=1", "a=2"}, {"a=1", "b=1"}, {"a=1", "a=1&b"}, {"host: here", "host: there"}, {"\n\nhi", "\n\nho"},
			{"length: 2\n\nhi", "length: 3\n\nhip"}, {"host: here\n", ""}, {"host: here", "x-more: 1\nhost: here"}, {"host: here", "x-: 1\nhost: here"},
		} {
			changed := strings.Replace(text, c[0], c[1], 1)
			if changed == text {
				t.Fatalf("%q is not in %q", c[0], text)
			}
			wantDo(t, s, changed, no)
		}
		wantDo(t, s, strings.Replace(text, "host: here", "other: 1\nhost: here", 1), bad)
		wantDo(t, s, strings.Replace(text, "/box/k", "/%62ox%2fk", 1), bad)
		wantDo(t, s, strings.Replace(text, "a=1", "%61=%31", 1), bad)
	}
}

// A request is signed in one of two ways, not in both, and none is half of one.
func TestP9OneWayOfSigning(t *testing.T) {
	s := withBox(t)
	header, query := byHeader("al", noon, "GET", "/box/k", ""), byQuery("al", noon, 9, "GET", "/box/k", "")
	wantDo(t, s, header, told(1, "hi"))
	wantDo(t, s, query, told(1, "hi"))
	auth := header[strings.Index(header, "auth: "):]
	auth = auth[:strings.Index(auth, "\n")+1]
	wantDo(t, s, strings.Replace(query, "host:", auth+"host:", 1), no)
	wantDo(t, s, strings.Replace(query, "host:", "auth: \nhost:", 1), no)
	for _, pair := range []string{"x-", "x-a", "x-sig", "x-sig=1", "x-user=al", "x%2Dmore", "%78-more=2"} {
		target := "/box/k?" + pair
		proof := signatureOf("al", noon, unsigned("GET", target, "", ""), "host")
		wantDo(t, s, unsigned("GET", target, "auth: L1 al 5000 host "+proof+"\n", ""), no)
	}
	// A name that begins almost so is signed, and asks for nothing.
	wantDo(t, s, byHeader("al", noon, "GET", "/box/k?x", ""), bad)
	wantDo(t, s, byHeader("al", noon, "GET", "/box/k?X-a", ""), bad)
	wantDo(t, s, byQuery("al", noon, 9, "GET", "/box/k?ax-a", ""), bad)
}

// querySigned signs a query whose pairs are given, but for x-sig.
func querySigned(user string, second int, target, list string) string {
	proof := signatureOf(user, second, unsigned("GET", target, "", ""), list)
	return unsigned("GET", target+"&x-sig="+proof, "", "")
}

func TestP9PairsOfTheQuery(t *testing.T) {
	s := withBox(t)
	right := "/box/k?x-user=al&x-time=5000&x-for=9&x-list=host"
	wantDo(t, s, querySigned("al", noon, right, "host"), told(1, "hi"))
	wantDo(t, s, querySigned("al", noon, "/box/k?x-list=ho%73t&x-for=%39&version=1&x-time=5000&x%2Duser=al", "host"), told(1, "hi"))
	for _, c := range [][2]string{
		{"x-user=al&", ""}, {"x-time=5000&", ""}, {"x-for=9&", ""}, {"&x-list=host", ""}, {"x-user=al", "x-user"}, {"x-user=al", "x-user=AL"}, {"x-user", "x-name"},
		{"x-time=5000", "x-time=05000"}, {"x-time=5000", "x-time=%2B5000"}, {"x-time=5000", "x-time=%205000"}, {"x-time=5000", "x-time=-1"}, {"x-time=5000", "x-time"}, {"x-time=5000", "x-time=99999999999999999999"},
		{"x-for=9", "x-for=09"}, {"x-for=9", "x-for"}, {"x-for=9", "x-for=0"}, {"x-for=9", "x-for=604801"}, {"x-for=9", "x-for=9a"}, {"x-for=9", "x-for=%2B9"}, {"x-for=9", "x-for=99999999999999999999"},
		{"x-list=host", "x-list="}, {"x-list=host", "x-list=host%3B"}, {"x-list=host", "x-list=none"}, {"x-list=host", "x-list=host&x-more=1"}, {"x-list=host", "x-list=host&x-"}, {"x-list=host", "x-list=host&x%2Dmore"},
	} {
		target := strings.Replace(right, c[0], c[1], 1)
		if target == right {
			t.Fatalf("%q is not in %q", c[0], right)
		}
		wantDo(t, s, querySigned("al", noon, target, "host"), no)
	}
	wantDo(t, s, unsigned("GET", right, "", ""), no)
	wantDo(t, s, unsigned("GET", right+"&x-sig", "", ""), no)
}

// A list may be empty; a header that is not signed may be anything.
func TestP9Lists(t *testing.T) {
	s := withBox(t)
	bare := "GET /box/k\n\n"
	proof := signatureOf("al", noon, bare, "")
	wantDo(t, s, "GET /box/k\nauth: L1 al 5000  "+proof+"\n\n", told(1, "hi"))
	wantDo(t, s, "GET /box/k\nother: 1\nauth: L1 al 5000  "+proof+"\n\n", told(1, "hi"))
	wantDo(t, s, "GET /box/k\nhost: h\nauth: L1 al 5000  "+proof+"\n\n", no)
	wantDo(t, s, "GET /box/k\nauth: L1 al 5000 "+proof+"\n\n", no)
	target := "/box/k?x-user=al&x-time=5000&x-for=9&x-list"
	proof = signatureOf("al", noon, "GET "+target+"\n\n", "")
	wantDo(t, s, "GET "+target+"&x-sig="+proof+"\n\n", told(1, "hi"))
	// No list is not an empty one.
	target = "/box/k?x-user=al&x-time=5000&x-for=9&x-other"
	proof = signatureOf("al", noon, "GET "+target+"\n\n", "")
	wantDo(t, s, "GET "+target+"&x-sig="+proof+"\n\n", no)
	many := "GET /box/k\nx-b: 2\na: 1\nlength: 0\nhost: h\n"
	proof = signatureOf("al", noon, many+"\n", "a;host;length;x-b")
	wantDo(t, s, many+"auth: L1 al 5000 a;host;length;x-b "+proof+"\n\n", told(1, "hi"))
	wantDo(t, s, many+"auth: L1 al 5000 host;length;x-b "+proof+"\n\n", no)
	proof = signatureOf("al", noon, many+"\n", "host;length")
	wantDo(t, s, many+"auth: L1 al 5000 host;length "+proof+"\n\n", no)
}

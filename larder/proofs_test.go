package larder_test

import (
	"crypto/hmac"
	"crypto/sha256"
	"encoding/hex"
	"math"
	"math/rand"
	"strconv"
	"strings"
	"testing"

	"larder/api"
	"larder/larder"
)

const emptyHash = "e3b0c44298fc1c149afbf4c8996fb92427ae41e4649b934ca495991b7852b855"

func wantCanon(t *testing.T, text string, list string, want string) {
	t.Helper()
	if got, errno := larder.Canon(text, list); got != want || errno != api.OK {
		t.Errorf("Canon(%.80q, %q) = %q, %d, want %q", text, list, got, errno, want)
	}
}

func wantNoCanon(t *testing.T, text string, list string, want api.Errno) {
	t.Helper()
	if got, errno := larder.Canon(text, list); got != "" || errno != want {
		t.Errorf("Canon(%.80q, %.80q) = %q, %d, want nothing, %d", text, list, got, errno, want)
	}
}

func TestP6CanonExample(t *testing.T) {
	wantCanon(t, "PUT /box/a%20key\nhost: here\nlength: 2\n\nhi", "host;length",
		"PUT\n/box/a%20key\n\nhost:here\nlength:2\n\nhost;length\n8f434346648f6b96df89dda901c5176b10a6d83961dd3c1ac88b59b2dc327aa4")
}

func TestP6CanonWithoutNames(t *testing.T) {
	wantCanon(t, "GET /\n\n", "", "GET\n/\n\n\n\n"+emptyHash)
	wantCanon(t, "DELETE /a\nother: o\nauth: a\nhosts: h\nlengths: l\nx: y\nax-b: c\n\n", "", "DELETE\n/a\n\n\n\n"+emptyHash)
}

// However a path and a query were told, one code of them is signed.
func TestP6CanonOfPathAndQuery(t *testing.T) {
	for target, want := range map[string]string{
		"/%2f%61%7e%20":         "//a~%20\n",
		"/b/k?b=2&a=1":          "/b/k\na=1&b=2",
		"/?a":                   "/\na=",
		"/?a=":                  "/\na=",
		"/?a=2&a1=1":            "/\na1=1&a=2", // '1' is below '='
		"/?a-=1&a=2&aa=3&a%20=": "/\na%20=&a-=1&a=2&aa=3",
		"/?b&B&%ff&_&~&0&%2b":   "/\n%2B=&%FF=&0=&B=&_=&b=&~=",
		"/?%61=%2f%3d%26%c3":    "/\na=%2F%3D%26%C3",
		"/?%2f=/":               "",
		"/?x-sig=1":             "/\n",
		"/?x-sig":               "/\n",
		"/?x%2Dsig=1&b":         "/\nb=",
		"/?b&x-sig=1&a":         "/\na=&b=",
		"/?x-sig2=1&x-si&X-sig": "/\nX-sig=&x-si=&x-sig2=1",
		"/?a=x-sig":             "/\na=x-sig",
		"/?x-user=al&x-time=1":  "/\nx-time=1&x-user=al",
	} {
		if want == "" {
			wantNoCanon(t, "GET "+target+"\n\n", "", api.ErrForm)
			continue
		}
		wantCanon(t, "GET "+target+"\n\n", "", "GET\n"+want+"\n\n\n"+emptyHash)
	}
}

func TestP6CanonOfHeaders(t *testing.T) {
	text := "GET /\nx-b:  two  \nauth: proof\nother: o: p\nhost: \na-: 1\na: 2\n\n"
	wantCanon(t, text, "host;x-b", "GET\n/\n\nhost:\nx-b: two  \n\nhost;x-b\n"+emptyHash)
	wantCanon(t, text, "host;other;x-b", "GET\n/\n\nhost:\nother:o: p\nx-b: two  \n\nhost;other;x-b\n"+emptyHash)
	wantCanon(t, text, "a;a-;host;x-b", "GET\n/\n\na:2\na-:1\nhost:\nx-b: two  \n\na;a-;host;x-b\n"+emptyHash)
}

func TestP6ListsThatMayNotBe(t *testing.T) {
	text := "GET /\nauth: a\nhost: h\nlength: 0\nx-y: 1\nother: o\n\n"
	wantCanon(t, text, "host;length;x-y", "GET\n/\n\nhost:h\nlength:0\nx-y:1\n\nhost;length;x-y\n"+emptyHash)
	for _, list := range []string{
		"", "host", "host;length", "host;x-y", "length;x-y", "host;length;other",
		"length;host;x-y", "x-y;length;host", "host;host;length;x-y", "host;length;x-y;x-y",
		"host;length;x-y;", ";host;length;x-y", "host;;length;x-y", ";", "host;length;x-y;auth", "auth;host;length;x-y",
		"host;length;none;x-y", "host;length;x-y;x-z", "Host;length;x-y", "host,length,x-y", "host; length;x-y", "host;length;x-y\n", " host;length;x-y",
		"host;length;x-", "host;length;x-y" + strings.Repeat(";", 3000000), strings.Repeat("host;", 1000000),
	} {
		wantNoCanon(t, text, list, api.ErrForm)
	}
	wantNoCanon(t, "GET /\nauth: a\n\n", "auth", api.ErrForm)
	wantNoCanon(t, "GET /\n\n", "host", api.ErrForm)
	wantNoCanon(t, "GET /\n\n", ";", api.ErrForm)
	for _, header := range []string{"host", "length", "x-", "x-a", "x-sig"} {
		wantNoCanon(t, "GET /\n"+header+": 0\n\n", "", api.ErrForm)
		wantCanon(t, "GET /\n"+header+": 0\n\n", header, "GET\n/\n\n"+header+":0\n\n"+header+"\n"+emptyHash)
	}
}

func TestP6CanonHasTheErrorsOfParse(t *testing.T) {
	for _, list := range []string{"", "host", ";", "auth"} {
		wantNoCanon(t, "nothing", list, api.ErrForm)
		wantNoCanon(t, "PUT /\n\nhi", list, api.ErrForm)
		wantNoCanon(t, strings.Repeat("x", 2000), list, api.ErrForm)
		wantNoCanon(t, strings.Repeat("x", 2001), list, api.ErrLong)
		wantNoCanon(t, withLength("PUT", strings.Repeat("b", 301)), list, api.ErrLong)
	}
}

// signature works a signature out by the library's means.
func signature(secret string, second int, canon string) string {
	tag := func(key string, text string) string {
		m := hmac.New(sha256.New, []byte(key))
		m.Write([]byte(text))
		return string(m.Sum(nil))
	}
	date := strconv.Itoa(second / 86400)
	sum := sha256.Sum256([]byte(canon))
	key := tag(tag("L1"+secret, date), "larder")
	text := "L1\n" + strconv.Itoa(second) + "\n" + date + "\n" + hex.EncodeToString(sum[:])
	return hex.EncodeToString([]byte(tag(key, text)))
}

func wantSigned(t *testing.T, secret string, second int, canon string) {
	t.Helper()
	want := signature(secret, second, canon)
	if got, errno := larder.Sign(secret, second, canon); got != want || errno != api.OK {
		t.Errorf("Sign(%q, %d, %.40q) = %q, %d, want %q", secret, second, canon, got, errno, want)
	}
}

func TestP6Signatures(t *testing.T) {
	for _, second := range []int{0, 1, 86399, 86400, 86401, 172799, 172800, 1000000000, 999999999999, 1000000000000} {
		for _, secret := range []string{"s", "\x00", "\xff\n;", strings.Repeat("s", 39), strings.Repeat("s", 40)} {
			for _, canon := range []string{"", "GET\n/\n\n\n\n" + emptyHash, "\x00", strings.Repeat("c", 3000)} {
				wantSigned(t, secret, second, canon)
			}
		}
	}
	r := rand.New(rand.NewSource(12))
	for range 300 {
		secret := make([]byte, 1+r.Intn(40))
		r.Read(secret)
		wantSigned(t, string(secret), r.Intn(1000000000001), strconv.Itoa(r.Int()))
	}
	wantSigned(t, "s", 5, strings.Repeat("c", 3000000))
}

func TestP6WhatCannotSign(t *testing.T) {
	wrong := []int{math.MinInt, -86400, -1, 1000000000001, math.MaxInt}
	for _, secret := range []string{"", "s", strings.Repeat("s", 41)} {
		for _, second := range wrong {
			if got, errno := larder.Sign(secret, second, "x"); got != "" || errno != api.ErrNumber {
				t.Errorf("Sign(%q, %d, ..) = %q, %d, want ErrNumber", secret, second, got, errno)
			}
		}
	}
	for _, secret := range []string{"", strings.Repeat("s", 41), strings.Repeat("s", 3000000)} {
		for _, second := range []int{0, 1000000000000} {
			if got, errno := larder.Sign(secret, second, "x"); got != "" || errno != api.ErrLong {
				t.Errorf("Sign of a secret of %d bytes, at %d = %q, %d, want ErrLong", len(secret), second, got, errno)
			}
		}
	}
}

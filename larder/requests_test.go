package larder_test

import (
	"fmt"
	"reflect"
	"strings"
	"testing"

	"larder/api"
	"larder/larder"
)

func wantParts(t *testing.T, text string, want api.Request) {
	t.Helper()
	if got, errno := larder.Parse(text); !reflect.DeepEqual(got, want) || errno != api.OK {
		t.Errorf("Parse(%.80q) = %.200q, %d, want %.200q", text, fmt.Sprint(got), errno, fmt.Sprint(want))
	}
}

// wantRefused wants an error, and with it a request of noughts.
func wantRefused(t *testing.T, text string, want api.Errno) {
	t.Helper()
	if got, errno := larder.Parse(text); !reflect.DeepEqual(got, api.Request{}) || errno != want {
		t.Errorf("Parse(%.80q) = %.200q, %d, want nothing, %d", text, fmt.Sprint(got), errno, want)
	}
}

func withLength(method string, body string) string {
	return fmt.Sprintf("%s /\nlength: %d\n\n%s", method, len(body), body)
}

func manyHeaders(count int) string {
	var lines strings.Builder
	for i := range count {
		fmt.Fprintf(&lines, "h%d: v%d\n", i, i)
	}
	return lines.String()
}

func TestP5PartsOfARequest(t *testing.T) {
	wantParts(t, "PUT /box/a%20key?a=1&b%26=%2f&c=&d\nhost: here\nlength: 2\n\nhi", api.Request{
		Method:  "PUT",
		Path:    "/box/a key",
		Query:   []api.Pair{{Name: "a", Value: "1"}, {Name: "b&", Value: "/"}, {Name: "c"}, {Name: "d"}},
		Headers: []api.Pair{{Name: "host", Value: "here"}, {Name: "length", Value: "2"}},
		Body:    "hi",
	})
	for _, method := range []string{"GET", "PUT", "DELETE"} {
		wantParts(t, method+" /\n\n", api.Request{Method: method, Path: "/"})
		wantParts(t, withLength(method, "b"), api.Request{Method: method, Path: "/", Headers: []api.Pair{{Name: "length", Value: "1"}}, Body: "b"})
	}
}

func TestP5Order(t *testing.T) {
	wantParts(t, "GET /?z&a&m\nz: 1\na: 2\nm: 3\n\n", api.Request{
		Method: "GET", Path: "/",
		Query:   []api.Pair{{Name: "z"}, {Name: "a"}, {Name: "m"}},
		Headers: []api.Pair{{Name: "z", Value: "1"}, {Name: "a", Value: "2"}, {Name: "m", Value: "3"}},
	})
}

func TestP5Methods(t *testing.T) {
	for _, method := range []string{"", "get", "Get", "POST", "HEAD", "GETT", "GE", "GET\t", "\xffGET", "PUT,GET", "DELET"} {
		wantRefused(t, method+" /\n\n", api.ErrForm)
	}
	for _, line := range []string{"GET", "GET/", "GET  /", " GET /", "GET\t/", "GET / ", "GET /\r", "GET / HTTP/1.1", "/ GET", ""} {
		wantRefused(t, line+"\n\n", api.ErrForm)
	}
}

func TestP5Paths(t *testing.T) {
	for code, path := range map[string]string{"/": "/", "//": "//", "/%2F": "//", "/%2f%00%ff": "//\x00\xff", "/a.b-c_d~E/9": "/a.b-c_d~E/9", "/%3Fa": "/?a", "/%": "", "/%6": "", "/%zz": "", "%2Fbox": "", "": "", "box": "", "/a b": "", "/a+b": "", "/a=b": "", "/a&b": "", "/a:b": "", "/a\xc3\xa9": "", "/a\x00": "", "*": ""} {
		if path == "" {
			wantRefused(t, "GET "+code+"\n\n", api.ErrForm)
			wantRefused(t, "GET "+code+"?a\n\n", api.ErrForm)
			continue
		}
		wantParts(t, "GET "+code+"\n\n", api.Request{Method: "GET", Path: path})
		wantParts(t, "GET "+code+"?a\n\n", api.Request{Method: "GET", Path: path, Query: []api.Pair{{Name: "a"}}})
	}
}

func TestP5Queries(t *testing.T) {
	for query, want := range map[string][]api.Pair{
		"a":           {{Name: "a"}},
		"a=":          {{Name: "a"}},
		"a=%3D%26%3f": {{Name: "a", Value: "=&?"}},
		"%3d=1":       {{Name: "=", Value: "1"}},
		"%00=%FF":     {{Name: "\x00", Value: "\xff"}},
		"a=1&A=1":     {{Name: "a", Value: "1"}, {Name: "A", Value: "1"}},
		"a&b=&c=3":    {{Name: "a"}, {Name: "b"}, {Name: "c", Value: "3"}},
		"a=b&b=a":     {{Name: "a", Value: "b"}, {Name: "b", Value: "a"}},
	} {
		wantParts(t, "GET /k?"+query+"\n\n", api.Request{Method: "GET", Path: "/k", Query: want})
	}
	for _, query := range []string{"", "&", "a&", "&a", "a&&b", "=", "=1", "a&=1", "a=1=2", "a==", "a&a", "a&b&a", "a=1&a=2", "a&a=", "a=1&%61=2", "%41&A", "a/b", "a=/", "a?b", "a=?", "?", "a=%", "a=%1", "%=a", "a b", "a=b c", "a=1&b=\xff", "a;b", "a+b"} {
		wantRefused(t, "GET /k?"+query+"\n\n", api.ErrForm)
	}
}

func TestP5EveryByteOfAHeader(t *testing.T) {
	const inNames = "abcdefghijklmnopqrstuvwxyz0123456789-"
	for i := range 256 {
		b := string([]byte{byte(i)})
		for _, name := range []string{b, "n" + b + "m"} {
			text := "GET /\n" + name + ": v\n\n"
			if strings.Contains(inNames, b) {
				wantParts(t, text, api.Request{Method: "GET", Path: "/", Headers: []api.Pair{{Name: name, Value: "v"}}})
			} else {
				wantRefused(t, text, api.ErrForm)
			}
		}
		for _, value := range []string{b, b + "v", "v" + b} {
			text := "GET /\nname: " + value + "\n\n"
			if 32 <= i && i <= 126 {
				wantParts(t, text, api.Request{Method: "GET", Path: "/", Headers: []api.Pair{{Name: "name", Value: value}}})
			} else {
				wantRefused(t, text, api.ErrForm)
			}
		}
	}
}

func TestP5Headers(t *testing.T) {
	twenty := strings.Repeat("n", 20)
	for line, want := range map[string]api.Pair{
		"a: ":           {Name: "a"},
		"a:  ":          {Name: "a", Value: " "},
		"a: b: c":       {Name: "a", Value: "b: c"},
		"a: :":          {Name: "a", Value: ":"},
		"-: -":          {Name: "-", Value: "-"},
		"7: x y ":       {Name: "7", Value: "x y "},
		twenty + ": v":  {Name: twenty, Value: "v"},
		"auth: L1 al 0": {Name: "auth", Value: "L1 al 0"},
		"a: %41":        {Name: "a", Value: "%41"},
	} {
		wantParts(t, "GET /\n"+line+"\n\n", api.Request{Method: "GET", Path: "/", Headers: []api.Pair{want}})
	}
	for _, line := range []string{"a", "a:", "a:b", "a :b", "a : b", ": b", ":", " a: b", "a:: b", "a:b: c", "A: b", twenty + "n: v", "a: 1\na: 1", "a: 1\nb: 2\na: 3", "a: b\r", "a\t: b", "a:\tb"} {
		wantRefused(t, "GET /\n"+line+"\n\n", api.ErrForm)
	}
}

func TestP5CountOfHeaders(t *testing.T) {
	for _, count := range []int{0, 1, 11, 12} {
		got, errno := larder.Parse("GET /\n" + manyHeaders(count) + "\n")
		if len(got.Headers) != count || errno != api.OK {
			t.Errorf("%d headers: %d of them, %d", count, len(got.Headers), errno)
		}
	}
	wantRefused(t, "GET /\n"+manyHeaders(13)+"\n", api.ErrForm)
	wantRefused(t, "GET /\n"+manyHeaders(100)+"\n", api.ErrForm)
}

func TestP5LinesMustEnd(t *testing.T) {
	for _, text := range []string{"", "\n", "\n\n", "GET /", "GET /\n", "GET /\na: b", "GET /\na: b\n", "\nGET /\n\n", "GET /\r\n\r\n"} {
		wantRefused(t, text, api.ErrForm)
	}
}

func TestP5Length(t *testing.T) {
	wantParts(t, "GET /\nlength: 0\n\n", api.Request{Method: "GET", Path: "/", Headers: []api.Pair{{Name: "length", Value: "0"}}})
	wantParts(t, "PUT /\nlength: 10\n\n0123\n\n6789", api.Request{Method: "PUT", Path: "/", Headers: []api.Pair{{Name: "length", Value: "10"}}, Body: "0123\n\n6789"})
	wantParts(t, "PUT /\nlength: 3\n\n\x00\xff\n", api.Request{Method: "PUT", Path: "/", Headers: []api.Pair{{Name: "length", Value: "3"}}, Body: "\x00\xff\n"})
	for _, told := range []string{"", "1", "00", "+0", "-0", "0 ", " 0", "0x0", "none"} {
		wantRefused(t, "PUT /\nlength: "+told+"\n\n", api.ErrForm)
	}
	for _, told := range []string{"", "0", "1", "3", "02", "+2", "-2", "2 ", " 2", "2.0", "0x2", "two", "18446744073709551618"} {
		wantRefused(t, "PUT /\nlength: "+told+"\n\nhi", api.ErrForm)
	}
	wantRefused(t, "PUT /\n\nhi", api.ErrForm)
	wantRefused(t, "PUT /\n\n\n", api.ErrForm)
	wantRefused(t, "PUT /\nhost: 2\n\nhi", api.ErrForm)
}

// The text's length is asked first, the form then, the body's length last.
func TestP5LongTexts(t *testing.T) {
	for _, size := range []int{299, 300} {
		if got, errno := larder.Parse(withLength("PUT", strings.Repeat("b", size))); len(got.Body) != size || errno != api.OK {
			t.Errorf("a body of %d: %d bytes, %d", size, len(got.Body), errno)
		}
	}
	wantRefused(t, withLength("PUT", strings.Repeat("b", 301)), api.ErrLong)
	wantRefused(t, "PUT /\nlength: 300\n\n"+strings.Repeat("b", 301), api.ErrForm)
	wantRefused(t, "PUT /\n\n"+strings.Repeat("b", 301), api.ErrForm)

	path := "/" + strings.Repeat("p", 2000-len("GET /\n\n"))
	wantParts(t, "GET "+path+"\n\n", api.Request{Method: "GET", Path: path})
	wantRefused(t, "GET "+path+"p\n\n", api.ErrLong)
	wantRefused(t, strings.Repeat("x", 2000), api.ErrForm)
	wantRefused(t, strings.Repeat("x", 2001), api.ErrLong)
	head := "PUT /\nlength: 1981\n\n"
	wantRefused(t, head+strings.Repeat("b", 2000-len(head)), api.ErrForm)
	head = "PUT /\nlength: 1980\n\n"
	wantRefused(t, head+strings.Repeat("b", 2000-len(head)), api.ErrLong)
	wantRefused(t, head+strings.Repeat("b", 2001-len(head)), api.ErrLong)
}

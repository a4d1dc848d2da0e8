// Package request: requests taken apart.
package request

import (
	"strconv"
	"strings"

	"larder/api"
	"larder/code"
)

const maxHeaderName = 20

// noRequest is what the reader panics with where a text is no request.
type noRequest struct{}

// Parse takes a request apart: ErrLong, if it is too long; ErrForm, if it is none; ErrLong, if its body is too long.
func Parse(text string) (parts api.Request, errno api.Errno) {
	// Whatever comes up is caught, not noRequest alone: no call may panic.
	defer func() {
		if recover() != nil {
			parts, errno = api.Request{}, api.ErrForm
		}
	}()
	if len(text) > api.MaxRequest {
		return api.Request{}, api.ErrLong
	}
	// A copy, since an answer shares no memory with what was handed in.
	r := reader{rest: strings.Clone(text)}
	parts = r.readRequest()
	if len(parts.Body) > api.MaxBody {
		return api.Request{}, api.ErrLong
	}
	return parts, api.OK
}

// Find tells the value that belongs to a name, and whether the name is there.
func Find(pairs []api.Pair, name string) (string, bool) {
	for _, pair := range pairs {
		if pair.Name == name {
			return pair.Value, true
		}
	}
	return "", false
}

// reader takes a request apart from its front; it gives up by a panic with noRequest.
type reader struct {
	rest string
}

// need gives up if what must hold does not.
func need(holds bool) {
	if !holds {
		panic(noRequest{})
	}
}

func (r *reader) readRequest() api.Request {
	parts := readFirstLine(r.readLine())
	parts.Headers = r.readHeaders()
	parts.Body = r.rest
	needLength(parts)
	return parts
}

func (r *reader) readLine() string {
	line, rest, ended := strings.Cut(r.rest, "\n")
	need(ended)
	r.rest = rest
	return line
}

func readFirstLine(line string) api.Request {
	method, target, spaced := strings.Cut(line, " ")
	need(spaced && isMethod(method))
	path, query, asks := strings.Cut(target, "?")
	need(strings.HasPrefix(path, "/"))
	parts := api.Request{Method: method, Path: decode(path, true)}
	if asks {
		parts.Query = readQuery(query)
	}
	return parts
}

func isMethod(word string) bool {
	return word == "GET" || word == "PUT" || word == "DELETE"
}

func decode(text string, path bool) string {
	plain, errno := code.Decode(text, path)
	need(errno == api.OK)
	return plain
}

func readQuery(query string) []api.Pair {
	var pairs []api.Pair
	for _, text := range strings.Split(query, "&") {
		name, value, _ := strings.Cut(text, "=")
		pair := api.Pair{Name: decode(name, false), Value: decode(value, false)}
		need(pair.Name != "")
		pairs = addPair(pairs, pair)
	}
	return pairs
}

// addPair gives up if there is a pair of this name.
func addPair(pairs []api.Pair, pair api.Pair) []api.Pair {
	_, there := Find(pairs, pair.Name)
	need(!there)
	return append(pairs, pair)
}

// readHeaders reads the header lines and the empty line behind them.
func (r *reader) readHeaders() []api.Pair {
	var headers []api.Pair
	for line := r.readLine(); line != ""; line = r.readLine() {
		need(len(headers) < api.MaxHeaders)
		headers = addPair(headers, readHeader(line))
	}
	return headers
}

func readHeader(line string) api.Pair {
	// The first colon with a space ends the name, since a name has neither in it.
	name, value, parted := strings.Cut(line, ": ")
	need(parted && isHeaderName(name) && isHeaderValue(value))
	return api.Pair{Name: name, Value: value}
}

func isHeaderName(name string) bool {
	for i := range len(name) {
		b := name[i]
		if !('a' <= b && b <= 'z' || '0' <= b && b <= '9' || b == '-') {
			return false
		}
	}
	return 1 <= len(name) && len(name) <= maxHeaderName
}

func isHeaderValue(value string) bool {
	for i := range len(value) {
		if value[i] < 32 || value[i] > 126 {
			return false
		}
	}
	return true
}

// needLength gives up if the header length does not tell the body's length, or is missed.
func needLength(parts api.Request) {
	told, there := Find(parts.Headers, "length")
	if there || parts.Body != "" {
		need(told == strconv.Itoa(len(parts.Body)))
	}
}

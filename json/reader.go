package json

import (
	"strings"

	"larder/api"
)

// noJSON is what the reader panics with where a text is no JSON.
type noJSON struct{}

// Read tells the value of a JSON text: ErrForm, if it is none.
func Read(text string) (value Value, errno api.Errno) {
	// Whatever comes up is caught, not noJSON alone: no call may panic.
	defer func() {
		if recover() != nil {
			value, errno = nil, api.ErrForm
		}
	}()
	r := reader{rest: text}
	return r.readText(), api.OK
}

// reader takes a text apart from its front; it gives up by a panic with noJSON.
type reader struct {
	rest string
}

// need gives up if what must hold does not.
func need(holds bool) {
	if !holds {
		panic(noJSON{})
	}
}

func (r *reader) readText() Value {
	value := r.readValue(0)
	r.skipSpace()
	need(r.rest == "")
	return value
}

// readValue reads a value that stands within so many others. The bound on them also keeps the calls of readValue from standing within too many of their own.
func (r *reader) readValue(others int) Value {
	need(others <= api.MaxDepth)
	switch {
	case r.take("{"):
		return r.readObject(others + 1)
	case r.take("["):
		return r.readArray(others + 1)
	case r.take(`"`):
		return String(r.readString())
	case r.take("true"):
		return Bool(true)
	case r.take("false"):
		return Bool(false)
	case r.take("null"):
		return Null{}
	}
	panic(noJSON{})
}

// readObject reads what stands behind an object's brace.
func (r *reader) readObject(others int) Object {
	var members Object
	r.readList("}", func() {
		need(r.take(`"`))
		name := r.readString()
		need(r.take(":"))
		members = append(members, Member{Name: name, Value: r.readValue(others)})
	})
	return members
}

// readArray reads what stands behind an array's bracket.
func (r *reader) readArray(others int) Array {
	var values Array
	r.readList("]", func() {
		values = append(values, r.readValue(others))
	})
	return values
}

// readList reads none or more things with commas between, and the end behind them.
func (r *reader) readList(end string, readOne func()) {
	if r.take(end) {
		return
	}
	readOne()
	for !r.take(end) {
		need(r.take(","))
		readOne()
	}
}

// readString reads what stands behind a string's first quote, the last one too.
func (r *reader) readString() string {
	var text []byte
	for {
		b := r.next()
		switch {
		case b == '"':
			return string(text)
		case b == '\\':
			b = r.next()
			need(b == '"' || b == '\\')
		default:
			need(32 <= b && b <= 126)
		}
		text = append(text, b)
	}
}

// take takes a token, and the spaces ahead of it, if it comes next.
func (r *reader) take(token string) bool {
	r.skipSpace()
	rest, there := strings.CutPrefix(r.rest, token)
	r.rest = rest
	return there
}

func (r *reader) skipSpace() {
	r.rest = strings.TrimLeft(r.rest, " \n")
}

func (r *reader) next() byte {
	need(r.rest != "")
	b := r.rest[0]
	r.rest = r.rest[1:]
	return b
}

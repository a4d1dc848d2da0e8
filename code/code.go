// Package code: texts told in letters, digits, a few signs, and '%' with two digits.
package code

import "larder/api"

const (
	escape    = '%'
	hexDigits = "0123456789ABCDEF"
)

// Encode tells the code of a text, or of a path.
func Encode(text string, path bool) string {
	out := make([]byte, 0, len(text))
	for i := range len(text) {
		b := text[i]
		if isPlain(b, path) {
			out = append(out, b)
		} else {
			out = append(out, escape, hexDigits[b>>4], hexDigits[b&15])
		}
	}
	return string(out)
}

// isPlain tells whether a byte stands for itself.
func isPlain(b byte, path bool) bool {
	switch {
	case 'a' <= b && b <= 'z', 'A' <= b && b <= 'Z', '0' <= b && b <= '9':
		return true
	case b == '-', b == '.', b == '_', b == '~':
		return true
	}
	return path && b == '/'
}

// noCode is what the reader panics with where a text is no code.
type noCode struct{}

// Decode tells the text of a code, or of a path's code: ErrForm, if it is none.
func Decode(text string, path bool) (plain string, errno api.Errno) {
	// Whatever comes up is caught, not noCode alone: no call may panic.
	defer func() {
		if recover() != nil {
			plain, errno = "", api.ErrForm
		}
	}()
	r := reader{rest: text, path: path}
	return r.readAll(), api.OK
}

// reader takes a code apart from its front; it gives up by a panic with noCode.
type reader struct {
	rest string
	path bool
}

func (r *reader) readAll() string {
	out := make([]byte, 0, len(r.rest))
	for r.rest != "" {
		out = append(out, r.readByte())
	}
	return string(out)
}

// readByte reads one byte of the text, by itself or by its digits.
func (r *reader) readByte() byte {
	b := r.next()
	if b == escape {
		high := r.readDigit()
		low := r.readDigit()
		return high<<4 | low
	}
	if !isPlain(b, r.path) {
		panic(noCode{})
	}
	return b
}

func (r *reader) readDigit() byte {
	b := r.next()
	switch {
	case '0' <= b && b <= '9':
		return b - '0'
	case 'A' <= b && b <= 'F':
		return b - 'A' + 10
	case 'a' <= b && b <= 'f':
		return b - 'a' + 10
	}
	panic(noCode{})
}

func (r *reader) next() byte {
	if r.rest == "" {
		panic(noCode{})
	}
	b := r.rest[0]
	r.rest = r.rest[1:]
	return b
}

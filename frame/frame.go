// Package frame: the frames of a log, and the texts and numbers in their bodies.
package frame

import "larder/mark"

// How many bytes a length or a number has, its highest byte first.
const (
	shortSize  = 1
	longSize   = 2
	numberSize = 4
)

// Of tells the frame of a body.
func Of(body string) string {
	return Long(body) + Number(int(mark.Check(body)))
}

// Short tells a text with a length of one byte.
func Short(text string) string { return bytesOf(len(text), shortSize) + text }

// Long tells a text with a length of two bytes.
func Long(text string) string { return bytesOf(len(text), longSize) + text }

// Number tells a number of four bytes.
func Number(number int) string { return bytesOf(number, numberSize) }

func bytesOf(number int, size int) string {
	out := make([]byte, size)
	for i := range out {
		out[i] = byte(number >> (8 * (size - 1 - i)))
	}
	return string(out)
}

// First takes the first frame of a log apart: its body, how many bytes the frame has, and whether it is whole and its check right.
func First(log string) (body string, size int, right bool) {
	r := Read(log)
	body = r.Long()
	check := r.Number()
	if r.short || check != int(mark.Check(body)) {
		return "", 0, false
	}
	return body, len(log) - len(r.rest), true
}

// Reader takes texts and numbers from the front of a text. Where too little is left, it falls short: what it takes from there on is empty, and a number 0.
type Reader struct {
	rest  string
	short bool
}

// Read begins to read a text.
func Read(text string) *Reader { return &Reader{rest: text} }

// Letter takes one byte.
func (r *Reader) Letter() string { return r.take(1) }

// Short takes a text with a length of one byte.
func (r *Reader) Short() string { return r.take(r.number(shortSize)) }

// Long takes a text with a length of two bytes.
func (r *Reader) Long() string { return r.take(r.number(longSize)) }

// Number takes a number of four bytes.
func (r *Reader) Number() int { return r.number(numberSize) }

// Ended tells whether all was taken, and no more.
func (r *Reader) Ended() bool { return !r.short && r.rest == "" }

func (r *Reader) number(size int) int {
	number := 0
	text := r.take(size)
	for i := range len(text) {
		number = number<<8 | int(text[i])
	}
	return number
}

func (r *Reader) take(size int) string {
	if size > len(r.rest) {
		r.rest, r.short = "", true
		return ""
	}
	text := r.rest[:size]
	r.rest = r.rest[size:]
	return text
}

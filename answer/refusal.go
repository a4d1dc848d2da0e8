// Package answer: the responses to requests, and the refusals that lead to them.
package answer

import (
	"strconv"

	"larder/api"
)

// Number is what a response begins with.
type Number int

const (
	OK    Number = 200
	Bad   Number = 400
	No    Number = 403
	None  Number = 404
	There Number = 409
	Long  Number = 413
	Full  Number = 507
)

func (n Number) word() string {
	switch n {
	case OK:
		return "OK"
	case No:
		return "No"
	case None:
		return "None"
	case There:
		return "There"
	case Long:
		return "Long"
	case Full:
		return "Full"
	}
	return "Bad"
}

// told tells a number and its word.
func (n Number) told() string { return strconv.Itoa(int(n)) + " " + n.word() }

// Refusal is why a request is not done: the answer to it, and the error that led there, if there is one.
type Refusal struct {
	number Number
	cause  error
}

// Refuse makes a refusal; the cause may be nil.
func Refuse(number Number, cause error) error {
	return Refusal{number: number, cause: cause}
}

// Error tells the answer, and what led to it.
func (r Refusal) Error() string {
	if r.cause == nil {
		return r.number.told()
	}
	return r.number.told() + ": " + r.cause.Error()
}

// Unwrap gives the error that led to the refusal.
func (r Refusal) Unwrap() error { return r.cause }

// Fault is the error of a reader, as the cause of a refusal.
type Fault api.Errno

// Error tells the number of the error.
func (f Fault) Error() string { return "error " + strconv.Itoa(int(f)) }

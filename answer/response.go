package answer

import (
	"errors"
	"strings"

	"larder/api"
)

// Response is what comes of a request that is done, behind its first line.
type Response struct {
	Headers []api.Pair
	Body    string
}

// Write tells a response; an error has neither headers nor a body.
func Write(r Response, err error) string {
	number := numberOf(err)
	if number != OK {
		r = Response{}
	}
	var text strings.Builder
	text.WriteString(number.told() + "\n")
	for _, header := range r.Headers {
		text.WriteString(header.Name + ": " + header.Value + "\n")
	}
	text.WriteString("\n" + r.Body)
	return text.String()
}

// numberOf finds the answer that an error carries.
func numberOf(err error) Number {
	if err == nil {
		return OK
	}
	var refusal Refusal
	if errors.As(err, &refusal) {
		return refusal.number
	}
	return Bad
}

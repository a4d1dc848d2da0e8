package answer

import (
	"errors"
	"fmt"
	"testing"

	"larder/api"
)

func TestWhatIsDoneIsWritten(t *testing.T) {
	for want, response := range map[string]Response{
		"200 OK\n\n":                              {},
		"200 OK\n\nhi":                            {Body: "hi"},
		"200 OK\nversion: 1\nlength: 2\n\nhi":     {Headers: []api.Pair{{Name: "version", Value: "1"}, {Name: "length", Value: "2"}}, Body: "hi"},
		"200 OK\nlength: 3\nmore: true\n\n\n\n\n": {Headers: []api.Pair{{Name: "length", Value: "3"}, {Name: "more", Value: "true"}}, Body: "\n\n\n"},
	} {
		if got := Write(response, nil); got != want {
			t.Errorf("Write(%+v) = %q, want %q", response, got, want)
		}
	}
}

// A refusal has neither headers nor a body, however far within the error it lies.
func TestRefusalsAreWritten(t *testing.T) {
	half := Response{Headers: []api.Pair{{Name: "version", Value: "1"}}, Body: "hi"}
	for number, want := range map[Number]string{
		Bad: "400 Bad\n\n", No: "403 No\n\n", None: "404 None\n\n", There: "409 There\n\n", Long: "413 Long\n\n", Full: "507 Full\n\n",
	} {
		for _, err := range []error{
			Refuse(number, nil), Refuse(number, Fault(api.ErrForm)), Refuse(number, Refuse(OK, nil)),
			fmt.Errorf("within: %w", fmt.Errorf("more within: %w", Refuse(number, nil))),
		} {
			if got := Write(half, err); got != want {
				t.Errorf("Write(.., %v) = %q, want %q", err, got, want)
			}
		}
	}
	if got, want := Write(half, errors.New("without an answer")), "400 Bad\n\n"; got != want {
		t.Errorf("an error without an answer: %q, want %q", got, want)
	}
}

func TestRefusalsTellWhatLedToThem(t *testing.T) {
	cause := errors.New("the cause")
	if refusal := Refuse(Full, cause); !errors.Is(refusal, cause) || refusal.Error() != "507 Full: the cause" {
		t.Errorf("%q does not tell its cause", refusal)
	}
	var fault Fault
	if refusal := Refuse(Long, Fault(api.ErrLong)); !errors.As(refusal, &fault) || api.Errno(fault) != api.ErrLong {
		t.Errorf("%q does not tell its fault", refusal)
	}
	if refusal := Refuse(No, nil); errors.Unwrap(refusal) != nil || refusal.Error() != "403 No" {
		t.Errorf("%q has a cause", refusal)
	}
}

package code

import (
	"math/rand"
	"strings"
	"testing"

	"larder/api"
)

// gaveUpWith reads a whole code and tells what the reader panicked with.
func gaveUpWith(text string, path bool) (value any) {
	defer func() { value = recover() }()
	r := reader{rest: text, path: path}
	r.readAll()
	return nil
}

// The face catches whatever comes up: so here it is seen that nothing but noCode does.
func TestReaderGivesUpByNoCodeAlone(t *testing.T) {
	for _, text := range []string{"%", "%6", "a%", "%g1", "%1g", "%%61", "a b", "\x00", "\xff", "a/b"} {
		if _, ok := gaveUpWith(text, false).(noCode); !ok {
			t.Errorf("the reader of %q gave up with %v", text, gaveUpWith(text, false))
		}
	}
	r := rand.New(rand.NewSource(6))
	for range 20000 {
		text := randomCode(r)
		value := gaveUpWith(text, r.Intn(2) == 0)
		if _, ok := value.(noCode); value != nil && !ok {
			t.Errorf("the reader of %q gave up with %v", text, value)
		}
	}
}

// randomCode makes texts that are codes often enough, and often enough just not.
func randomCode(r *rand.Rand) string {
	parts := []string{"a", "Z", "0", "~", "/", "%2f", "%2F", "%00", "%fF", "%", "%4", "%G0", " ", "\x80"}
	common := len(parts) - r.Intn(6)
	var text strings.Builder
	for range r.Intn(12) {
		text.WriteString(parts[r.Intn(common)])
	}
	return text.String()
}

func TestEncodeUndoesDecode(t *testing.T) {
	r := rand.New(rand.NewSource(7))
	for range 20000 {
		text, path := randomCode(r), r.Intn(2) == 0
		plain, errno := Decode(text, path)
		if errno != api.OK {
			continue
		}
		again, errno := Decode(Encode(plain, path), path)
		if again != plain || errno != api.OK {
			t.Errorf("Decode(Encode(%q, %v)) = %q, %d", plain, path, again, errno)
		}
	}
}

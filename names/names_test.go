package names

import (
	"regexp"
	"strings"
	"testing"
)

// Each byte at the front, within and at the end, and each length, is held against an expression.
func TestNamesGoAsExpressions(t *testing.T) {
	kinds := []struct {
		name       string
		is         func(text string) bool
		expression *regexp.Regexp
	}{
		{"IsUser", IsUser, regexp.MustCompile(`\A[a-z0-9]{1,12}\z`)},
		{"IsBucket", IsBucket, regexp.MustCompile(`\A[a-z0-9-]{3,20}\z`)},
		{"IsKey", IsKey, regexp.MustCompile(`\A[ -~]{1,40}\z`)},
	}
	var texts []string
	for length := range 50 {
		texts = append(texts, strings.Repeat("a", length))
	}
	for i := range 256 {
		b := string([]byte{byte(i)})
		texts = append(texts, b, b+"bc", "a"+b+"c", "ab"+b)
	}
	texts = append(texts, "---", "-", "a b", "ä", strings.Repeat("a", 3000000))
	for _, kind := range kinds {
		for _, text := range texts {
			if got, want := kind.is(text), kind.expression.MatchString(text); got != want {
				t.Errorf("%s(%.50q) = %v, want %v", kind.name, text, got, want)
			}
		}
	}
}

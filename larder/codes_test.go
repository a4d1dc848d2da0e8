package larder_test

import (
	"fmt"
	"strings"
	"testing"

	"larder/api"
	"larder/larder"
)

const selves = "abcdefghijklmnopqrstuvwxyzABCDEFGHIJKLMNOPQRSTUVWXYZ0123456789-._~"

func standsForItself(b byte, path bool) bool {
	return strings.IndexByte(selves, b) >= 0 || path && b == '/'
}

func wantDecoded(t *testing.T, code string, path bool, want string) {
	t.Helper()
	if got, errno := larder.Decode(code, path); got != want || errno != api.OK {
		t.Errorf("Decode(%.40q, %v) = %.40q, %d, want %.40q", code, path, got, errno, want)
	}
}

func wantNoCode(t *testing.T, code string, path bool) {
	t.Helper()
	if got, errno := larder.Decode(code, path); got != "" || errno != api.ErrForm {
		t.Errorf("Decode(%.40q, %v) = %.40q, %d, want ErrForm", code, path, got, errno)
	}
}

func TestP4Examples(t *testing.T) {
	for _, c := range []struct {
		text string
		path bool
		want string
	}{
		{"a b/c", false, "a%20b%2Fc"},
		{"a b/c", true, "a%20b/c"},
		{"", false, ""},
		{"", true, ""},
		{"100%", false, "100%25"},
		{"%41", false, "%2541"},
		{"é\xff\x00", true, "%C3%A9%FF%00"},
	} {
		if got := larder.Encode(c.text, c.path); got != c.want {
			t.Errorf("Encode(%q, %v) = %q, want %q", c.text, c.path, got, c.want)
		}
		wantDecoded(t, c.want, c.path, c.text)
	}
	wantDecoded(t, "%61%2f", false, "a/")
	wantNoCode(t, "a/b", false)
	wantNoCode(t, "%6", true)
	wantNoCode(t, "a+b", true)
}

func TestP4EncodeOfEveryByte(t *testing.T) {
	for i := range 256 {
		text := string([]byte{byte(i)})
		for _, path := range []bool{false, true} {
			want := fmt.Sprintf("%%%02X", i)
			if standsForItself(byte(i), path) {
				want = text
			}
			if got := larder.Encode("x"+text+"y", path); got != "x"+want+"y" {
				t.Errorf("Encode of byte %d, %v = %q, want %q within", i, path, got, want)
			}
		}
	}
}

func TestP4DecodeOfEveryByteByItself(t *testing.T) {
	for i := range 256 {
		text := string([]byte{byte(i)})
		for _, path := range []bool{false, true} {
			if standsForItself(byte(i), path) {
				wantDecoded(t, "x"+text+"y", path, "x"+text+"y")
				continue
			}
			wantNoCode(t, text, path)
			wantNoCode(t, "x"+text+"y", path)
		}
	}
}

// Any two bytes behind the sign: a byte if both are digits, no code if not.
func TestP4DecodeOfEveryTwoDigits(t *testing.T) {
	const digits = "0123456789abcdef"
	value := func(b byte) int {
		if b >= 'A' && b <= 'F' {
			b += 'a' - 'A'
		}
		return strings.IndexByte(digits, b)
	}
	for i := range 256 {
		for j := range 256 {
			high, low := value(byte(i)), value(byte(j))
			code := "x%" + string([]byte{byte(i), byte(j)}) + "y"
			if high >= 0 && low >= 0 {
				wantDecoded(t, code, false, "x"+string([]byte{byte(high*16 + low)})+"y")
			} else {
				wantNoCode(t, code, false)
				wantNoCode(t, code, true)
			}
		}
	}
}

func TestP4DecodeOfCutAndOddCodes(t *testing.T) {
	for _, code := range []string{"%", "%6", "%f", "a%", "a%6", "%61%", "%61%6", "%%61", "%25%", "% 61", "%+1", "%-1", "%0x", "é", "a b", "a&b", "a=b", "a?b", "a\nb"} {
		wantNoCode(t, code, false)
		wantNoCode(t, code, true)
	}
	wantDecoded(t, "%2561", false, "%61")
	wantDecoded(t, "/%2F%2f", true, "///")
	wantDecoded(t, "%c3%A9", false, "é")
}

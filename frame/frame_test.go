package frame

import (
	"encoding/binary"
	"hash/crc32"
	"strings"
	"testing"
)

// libraryFrame makes a frame by the library's means.
func libraryFrame(body string) string {
	frame := binary.BigEndian.AppendUint16(nil, uint16(len(body)))
	frame = append(frame, body...)
	return string(binary.BigEndian.AppendUint32(frame, crc32.ChecksumIEEE([]byte(body))))
}

func bodies() []string {
	return []string{"", "a", "\x00", "\xff\x00\xff", "B\x03box\x02al", strings.Repeat("b", 255), strings.Repeat("\xff", 256), strings.Repeat("b", 65535)}
}

func TestFramesOfBodies(t *testing.T) {
	for _, body := range bodies() {
		if got, want := Of(body), libraryFrame(body); got != want {
			t.Errorf("the frame of %.20q is %.20q, want %.20q", body, got, want)
		}
	}
}

func TestFirstFrame(t *testing.T) {
	for _, body := range bodies() {
		for _, behind := range []string{"", "x", Of("next"), strings.Repeat("\x00", 40)} {
			got, size, right := First(libraryFrame(body) + behind)
			if got != body || size != len(body)+6 || !right {
				t.Errorf("the first frame, of %.20q: %.20q, %d, %v", body, got, size, right)
			}
		}
	}
}

func wantNoFrame(t *testing.T, log string) {
	t.Helper()
	if body, size, right := First(log); body != "" || size != 0 || right {
		t.Errorf("First(%.40q) = %.20q, %d, %v, want none", log, body, size, right)
	}
}

func TestFramesThatAreNone(t *testing.T) {
	for _, body := range []string{"a", "B\x03box\x02al", strings.Repeat("b", 300)} {
		frame := libraryFrame(body)
		for cut := range len(frame) {
			wantNoFrame(t, frame[:cut])
		}
		for i := range 8 * len(frame) {
			turned := []byte(frame)
			turned[i/8] ^= 1 << (i % 8)
			wantNoFrame(t, string(turned))
		}
	}
	wantNoFrame(t, "")
	wantNoFrame(t, "\xff\xff"+strings.Repeat("a", 65534))
}

func TestTextsAndNumbersAreReadAsTheyWereWritten(t *testing.T) {
	for _, number := range []int{0, 1, 255, 256, 1<<16 + 2, 999999999, 1<<32 - 1} {
		short, long := strings.Repeat("s", number%256), strings.Repeat("l", number%65536)
		text := "L" + Short(short) + Number(number) + Long(long)
		r := Read(text)
		if r.Letter() != "L" || r.Short() != short || r.Number() != number || r.Ended() && long != "" || r.Long() != long || !r.Ended() {
			t.Errorf("%.40q was not read as it was written", text)
		}
		if r.Letter() != "" || r.Short() != "" || r.Number() != 0 || r.Long() != "" || r.Ended() {
			t.Errorf("something was read behind the end of %.40q", text)
		}
	}
}

// A reader that fell short stays so, though what it takes next would fit.
func TestReaderFallsShort(t *testing.T) {
	for text, read := range map[string]func(r *Reader){
		"":                 func(r *Reader) { r.Letter() },
		"\x03ab":           func(r *Reader) { r.Short() },
		"\x00\x03ab":       func(r *Reader) { r.Long() },
		"\x00":             func(r *Reader) { r.Long() },
		"\x00\x00\x00":     func(r *Reader) { r.Number() },
		"\xff\x00\x00\x00": func(r *Reader) { r.Short(); r.Letter() },
	} {
		r := Read(text)
		read(r)
		if r.Ended() || r.take(0) != "" || r.Ended() {
			t.Errorf("the reader of %q did not fall short", text)
		}
	}
}

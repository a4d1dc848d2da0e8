package larder_test

import (
	"encoding/binary"
	"hash/crc32"
	"strings"
	"testing"

	"larder/api"
	"larder/larder"
)

// frameOf makes a frame by the library's means.
func frameOf(body string) string {
	frame := binary.BigEndian.AppendUint16(nil, uint16(len(body)))
	frame = append(frame, body...)
	return string(binary.BigEndian.AppendUint32(frame, crc32.ChecksumIEEE([]byte(body))))
}

func framesOf(bodies ...string) string {
	log := ""
	for _, body := range bodies {
		log += frameOf(body)
	}
	return log
}

// sized tells a text with a length of two bytes.
func sized(text string) string {
	return string(binary.BigEndian.AppendUint16(nil, uint16(len(text)))) + text
}

func TestP10EachChangeAddsItsFrame(t *testing.T) {
	s := newStore(t, 20000)
	log := ""
	for _, c := range []struct {
		step step
		body string // of the frame; the empty text says that there is none
	}{
		{step{"al", "GET", "/box", "", none}, ""},
		{step{"al", "PUT", "/box", "", done}, "B\x03box\x02al"},
		{step{"al", "PUT", "/box", "", there}, ""},
		{step{"bo", "PUT", "/b-0", "", done}, "B\x03b-0\x02bo"},
		{step{"cy", "PUT", "/" + strings.Repeat("c", 20), "", done}, "B\x14" + strings.Repeat("c", 20) + "\x02cy"},
		{step{"al", "PUT", "/box/k", "hi", versioned(1)}, "O\x03box\x01k\x00\x02hi"},
		{step{"al", "PUT", "/box/k", "hi", versioned(2)}, "O\x03box\x01k\x00\x02hi"},
		{step{"al", "PUT", "/box/" + strings.Repeat("k", 40), strings.Repeat("\xff", 300), versioned(3)}, "O\x03box\x28" + strings.Repeat("k", 40) + "\x01\x2c" + strings.Repeat("\xff", 300)},
		{step{"bo", "PUT", "/b-0/a%20b", "", versioned(4)}, "O\x03b-0\x03a b\x00\x00"},
		{step{"bo", "PUT", "/box/k", "x", no}, ""},
		{step{"al", "GET", "/box/k", "", told(2, "hi")}, ""},
		{step{"al", "DELETE", "/box/k", "", versioned(5)}, "M\x03box\x01k"},
		{step{"al", "DELETE", "/box/none", "", versioned(6)}, "M\x03box\x04none"},
		{step{"al", "DELETE", "/box/k?version=9", "", none}, ""},
		{step{"al", "DELETE", "/box/k?version=2", "", versioned(2)}, "X\x03box\x01k\x00\x00\x00\x02"},
		{step{"al", "DELETE", "/box/k?version=5", "", versioned(5)}, "X\x03box\x01k\x00\x00\x00\x05"},
		{step{"al", "PUT", "/box?policy", "x", bad}, ""},
		{step{"al", "PUT", "/box?policy", emptyPolicy, done}, "P\x03box\x00\x0c" + emptyPolicy},
		{step{"al", "PUT", "/box?policy", emptyPolicy, done}, "P\x03box\x00\x0c" + emptyPolicy},
		{step{"al", "PUT", "/box?policy", emptyPolicy + strings.Repeat("\n", 288), done}, "P\x03box\x01\x2c" + emptyPolicy + strings.Repeat("\n", 288)},
		{step{"al", "GET", "/box?policy", "", toldPolicy(emptyPolicy + strings.Repeat("\n", 288))}, ""},
		{step{"al", "DELETE", "/box?policy", "", done}, "U\x03box"},
		{step{"al", "DELETE", "/box?policy", "", none}, ""},
		{step{"al", "GET", "/box", "", listed(false, "k 1 2", strings.Repeat("k", 40)+" 3 300")}, ""},
	} {
		wantSteps(t, s, c.step)
		if c.body != "" {
			log += frameOf(c.body)
		}
		if got := s.Log(); got != log {
			t.Fatalf("%+v: the log is %q, want %q", c.step, got, log)
		}
	}
	s.Tick(5)
	s.Clock()
	s.Do("")
	if s.Log() != log {
		t.Errorf("the log has grown by what is no change")
	}
}

// Numbers of more than one byte have their highest byte first.
func TestP10NumbersInTheLog(t *testing.T) {
	log := frameOf("B\x03box\x02al") + strings.Repeat(frameOf("M\x03box\x01k"), 300)
	s := openStore(t, 20000, log)
	wantSteps(t, s, step{"al", "DELETE", "/box/k?version=258", "", versioned(258)})
	if want := log + frameOf("X\x03box\x01k\x00\x00\x01\x02"); s.Log() != want {
		t.Errorf("the last frame is %q", s.Log()[len(log):])
	}
	wantSteps(t, s, step{"al", "PUT", "/box/k", "", versioned(301)})
}

func TestP10RoomToTheByte(t *testing.T) {
	changes := []step{
		{"al", "PUT", "/box", "", done}, {"al", "PUT", "/box/k", strings.Repeat("b", 100), versioned(1)}, {"al", "DELETE", "/box/k", "", versioned(2)}, {"al", "DELETE", "/box/k?version=2", "", versioned(2)}, {"al", "PUT", "/box?policy", emptyPolicy, done}, {"al", "DELETE", "/box?policy", "", done},
	}
	// All that stands ahead of a change is in the log that is opened.
	for i, change := range changes {
		whole := newStore(t, 20000)
		wantSteps(t, whole, changes[:i]...)
		before := whole.Log()
		wantSteps(t, whole, change)
		after := whole.Log()
		// The least room is more than these changes need: another bucket takes some.
		filler := framesOf("B\x04fill\x02cy", "P\x04fill"+sized(emptyPolicy+strings.Repeat(" ", 200)))
		need := len(after) + len(filler)
		log := before + filler
		tight := openStore(t, need, log)
		wantSteps(t, tight, change)
		if len(tight.Log()) != need {
			t.Errorf("%+v: a log of %d bytes, want %d", change, len(tight.Log()), need)
		}
		less := openStore(t, need-1, log)
		change.want = full
		wantSteps(t, less, change)
		if less.Log() != log {
			t.Errorf("%+v: without room the log is %q", change, less.Log())
		}
	}
}

func wantOpen(t *testing.T, log string, right int) *larder.Store {
	t.Helper()
	s, size, errno := larder.Open(configOf(20000, noon), log)
	if s == nil || size != right || errno != api.OK {
		t.Errorf("Open(%.80q) = %v, %d, %d, want %d bytes right", log, s != nil, size, errno, right)
	} else if s.Log() != log[:right] || s.Clock() != noon {
		t.Errorf("Open(%.80q) has the log %.80q, want %.80q", log, s.Log(), log[:right])
	}
	return s
}

func TestP11LongLogs(t *testing.T) {
	for _, length := range []int{20001, 3000000} {
		if s, size, errno := larder.Open(configOf(20000, 0), strings.Repeat("x", length)); s != nil || size != 0 || errno != api.ErrLong {
			t.Errorf("Open of %d bytes = %v, %d, %d", length, s, size, errno)
		}
		if s, size, errno := larder.Open(configOf(199, 0), strings.Repeat("x", length)); s != nil || size != 0 || errno != api.ErrConfig {
			t.Errorf("Open of %d bytes and no configuration = %v, %d, %d", length, s, size, errno)
		}
	}
	wantOpen(t, strings.Repeat("x", 20000), 0)
	wantOpen(t, strings.Repeat("\x00", 20000), 0)
	box, mark := frameOf("B\x03box\x02al"), frameOf("M\x03box\x01k")
	whole := box + strings.Repeat(mark, 1537)
	wantOpen(t, whole, len(whole))
	wantOpen(t, whole+strings.Repeat("x", 20000-len(whole)), len(whole))
	put := frameOf("O\x03box\x01k\x01\x2c" + strings.Repeat("b", 300))
	whole = box + strings.Repeat(put, 62) + strings.Repeat(mark, 34) + frameOf("M\x03box\x02kk")
	if len(whole) != 20000 {
		t.Fatalf("a log of %d bytes, want 20000", len(whole))
	}
	wantOpen(t, whole, 20000)
}

// A log may be longer than the room: then it is as it is, and nothing has room.
func TestP11LogsLongerThanTheRoom(t *testing.T) {
	log := framesOf("B\x03box\x02al", "O\x03box\x01k\x00\xf0"+strings.Repeat("b", 240))
	s := openStore(t, 200, log)
	wantSteps(t, s,
		step{"al", "GET", "/box/k", "", told(1, strings.Repeat("b", 240))}, step{"al", "DELETE", "/box/k", "", full}, step{"al", "DELETE", "/box/k?version=1", "", full}, step{"al", "PUT", "/bin", "", full},
		step{"al", "PUT", "/box/k", "", full}, step{"al", "PUT", "/box?policy", emptyPolicy, full}, step{"al", "GET", "/box", "", listed(false, "k 1 240")},
	)
	if s.Log() != log {
		t.Errorf("the log is %q, want %q", s.Log(), log)
	}
}

func TestP11FramesThatAreRight(t *testing.T) {
	box := "B\x03box\x02al"
	key, body := strings.Repeat("k", 40), strings.Repeat("\x00", 300)
	for _, bodies := range [][]string{
		{}, {box}, {"B\x03---\x02bo", "B\x14" + strings.Repeat("9", 20) + "\x02cy"}, {box, "B\x03bin\x02al", "B\x03bos\x02bo"},
		{box, "P\x03box\x00\x0c" + emptyPolicy}, {box, "P\x03box\x00\x0c" + emptyPolicy, "P\x03box\x00\x0c" + emptyPolicy}, {box, "P\x03box\x01\x2c" + strings.Repeat(" ", 288) + emptyPolicy, "U\x03box"}, {box, "P\x03box\x00\x0c" + emptyPolicy, "U\x03box", "P\x03box\x00\x0c" + emptyPolicy},
		{box, "O\x03box\x01k\x00\x00"}, {box, "O\x03box\x28" + key + "\x01\x2c" + body}, {box, "O\x03box\x01 \x00\x01x", "O\x03box\x01~\x00\x01x"}, {box, "M\x03box\x01k"}, {box, "M\x03box\x28" + key, "M\x03box\x28" + key},
		{box, "O\x03box\x01k\x00\x00", "X\x03box\x01k\x00\x00\x00\x01"}, {box, "M\x03box\x01k", "X\x03box\x01k\x00\x00\x00\x01"}, {box, "M\x03box\x01k", "M\x03box\x01j", "M\x03box\x01k", "X\x03box\x01k\x00\x00\x00\x03", "X\x03box\x01j\x00\x00\x00\x02", "X\x03box\x01k\x00\x00\x00\x01"},
		// A log says what was done, not who may do it.
		{box, "P\x03box" + sized(policyOf(ruleOf("deny", `["*"]`, `["*"]`, `["*"]`))), "O\x03box\x01k\x00\x00", "U\x03box"},
	} {
		log := framesOf(bodies...)
		wantOpen(t, log, len(log))
	}
}

func TestP11FramesThatAreNotRight(t *testing.T) {
	before := framesOf("B\x03box\x02al", "O\x03box\x01k\x00\x02hi", "P\x03box\x00\x0c"+emptyPolicy, "B\x03bin\x02bo", "M\x03bin\x01m", "O\x03box\x01l\x00\x00", "X\x03box\x01l\x00\x00\x00\x03")
	wantOpen(t, before, len(before))
	behind := framesOf("B\x03new\x02cy", "M\x03box\x01k")
	for _, body := range []string{
		"", "\x00", "b\x03new\x02al", "Q\x03new", "B", "P", "U", "O", "M", "X",
		"B\x03box\x02al", "B\x03box\x02bo", "B\x03bin\x02al", "B\x02no\x02al", "B\x15" + strings.Repeat("b", 21) + "\x02al", "B\x03NEW\x02al", "B\x03n w\x02al", "B\x00\x02al", "B\x03new\x03dee", "B\x03new\x00", "B\x03new\x01*", "B\x03new\x02AL", "B\x03new\x02al\x00", "B\x03new\x02a", "B\x03new\x03al", "B\x03new", "B\x04new\x02al", "B\x03ne\x02al", "B\xffnew\x02al",
		"P\x03new\x00\x0c" + emptyPolicy, "P\x03box\x00\x00", "P\x03box\x00\x02{}", "P\x03box\x00\x01x", "P\x03box\x00\x0b" + emptyPolicy, "P\x03box\x00\x0d" + emptyPolicy, "P\x03box\x0c" + emptyPolicy, "P\x03box\x00\x0c" + emptyPolicy + " ", "P\x03box\x01\x2d" + strings.Repeat(" ", 289) + emptyPolicy, "P\x03box", "P\x03box\x00",
		"U\x03bin", "U\x03new", "U\x03box\x00", "U\x04box", "U\x02box", "U\x00",
		"O\x03new\x01k\x00\x00", "O\x03box\x00\x00\x00", "O\x03box\x29" + strings.Repeat("k", 41) + "\x00\x00", "O\x03box\x01\x1f\x00\x00", "O\x03box\x01\x7f\x00\x00", "O\x03box\x02k\xff\x00\x00", "O\x03box\x01k\x01\x2d" + strings.Repeat("b", 301), "O\x03box\x01k\x00\x02h", "O\x03box\x01k\x00\x02hip", "O\x03box\x01k\x00", "O\x03box\x01k\x02hi", "O\x03box\x01k", "O\x03box\x01k\xff\xffhi",
		"M\x03new\x01k", "M\x03box\x00", "M\x03box\x29" + strings.Repeat("k", 41), "M\x03box\x01\n", "M\x03box\x01k\x00", "M\x03box\x02k", "M\x03box",
		"X\x03box\x01k\x00\x00\x00\x00", "X\x03box\x01k\x00\x00\x00\x02", "X\x03box\x01k\x00\x00\x00\x04", "X\x03box\x01l\x00\x00\x00\x03", "X\x03box\x01l\x00\x00\x00\x01", "X\x03bin\x01k\x00\x00\x00\x01", "X\x03new\x01k\x00\x00\x00\x01", "X\x03box\x01k\x00\x00\x01", "X\x03box\x01k\x00\x00\x00\x01\x00", "X\x03box\x01k\x01\x00\x00\x00", "X\x03box\x01k\x01\x00\x00\x01", "X\x03box\x01k\xff\xff\xff\xff", "X\x03box\x01k", "X\x03bin\x01m\x00\x00\x00\x01",
	} {
		// The frames behind it would be right, but for it.
		s := wantOpen(t, before+frameOf(body)+behind, len(before))
		if s.Do(byHeader("cy", noon, "PUT", "/new", "")) != done || s.Do(byHeader("al", noon, "GET", "/box/k", "")) != told(1, "hi") {
			t.Errorf("behind %q the store is not what it was ahead of it", body)
		}
	}
	wantOpen(t, before+behind, len(before)+len(behind))
}

// A bit that is turned takes away its frame and what stands behind.
func TestP11TurnedBits(t *testing.T) {
	frames := []string{frameOf("B\x03box\x02al"), frameOf("O\x03box\x01k\x00\x02hi"), frameOf("P\x03box\x00\x0c" + emptyPolicy), frameOf("X\x03box\x01k\x00\x00\x00\x01"), frameOf("U\x03box"), frameOf("M\x03box\x01k")}
	log, right := strings.Join(frames, ""), 0
	for _, frame := range frames {
		for at := right; at < right+len(frame); at++ {
			for bit := range 8 {
				turned := []byte(log)
				turned[at] ^= 1 << bit
				wantOpen(t, string(turned), right)
			}
		}
		right += len(frame)
	}
}

// What was right is what the log goes on behind.
func TestP11ALogGoesOn(t *testing.T) {
	log := framesOf("B\x03box\x02al", "O\x03box\x01k\x00\x02hi", "M\x03box\x01k")
	s := wantOpen(t, log+"rest", len(log))
	wantSteps(t, s, step{"al", "GET", "/box/k", "", none}, step{"al", "GET", "/box/k?version=1", "", told(1, "hi")}, step{"al", "PUT", "/box/k", "x", versioned(3)})
	log += frameOf("O\x03box\x01k\x00\x01x")
	if s.Log() != log {
		t.Errorf("the log is %q, want %q", s.Log(), log)
	}
	wantOpen(t, s.Log(), len(log))
}

// The owner of a bucket in the log is a user of the configuration with which it is opened.
func TestP11OwnersAreUsers(t *testing.T) {
	log := framesOf("B\x03box\x02al", "B\x03bos\x02bo", "B\x03bin\x02al")
	c := configOf(200, 0)
	c.Users = c.Users[:1]
	if _, size, errno := larder.Open(c, log); size != 14 || errno != api.OK {
		t.Errorf("Open without the user bo = %d, %d, want 14", size, errno)
	}
}

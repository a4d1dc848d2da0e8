package larder_test

import (
	"math"
	"strings"
	"sync"
	"testing"

	"larder/api"
	"larder/larder"
)

func oddTexts() []string {
	return []string{
		"", "%", "%6", "/", "\n", "\x00", "\xff", "{", "a b", "GET / \n\n",
		strings.Repeat("%", 3000000), strings.Repeat("a", 3000000) + "%",
		strings.Repeat("\xff", 3000000), strings.Repeat("[", 1000000),
	}
}

// That this test comes to its end says that each call has, without a panic.
func TestP1EveryCallOfTextsEnds(t *testing.T) {
	for _, text := range oddTexts() {
		larder.Hash(text)
		larder.Mac(text, text)
		larder.Crc(text)
		larder.Encode(text, false)
		larder.Encode(text, true)
		larder.Decode(text, false)
		larder.Decode(text, true)
		larder.Parse(text)
		larder.Canon(text, text)
		larder.Policy(text)
		larder.Rule(text, text, text, text)
		for _, second := range []int{math.MinInt, -1, 0, api.MaxClock, math.MaxInt} {
			larder.Sign(text, second, text)
		}
	}
}

func TestP1WithAnErrorTheTextIsEmpty(t *testing.T) {
	for _, code := range []string{"abc%", "abc%6", "abc d", strings.Repeat("a", 3000000) + "%"} {
		if text, errno := larder.Decode(code, true); text != "" || errno != api.ErrForm {
			t.Errorf("Decode(%.20q) = %.20q, %d, want the empty text, ErrForm", code, text, errno)
		}
	}
}

func TestP1LongTextsComeWhole(t *testing.T) {
	text := strings.Repeat("a \xff/", 500000)
	code := larder.Encode(text, true)
	if want := strings.Repeat("a%20%FF/", 500000); code != want {
		t.Errorf("the code of a long text has %d bytes, or others, want %d", len(code), len(want))
	}
	if got, errno := larder.Decode(code, true); got != text || errno != api.OK {
		t.Errorf("a long code: %d bytes, or others, and %d", len(got), errno)
	}
}

type answers struct {
	hash, tag, code, text, none string
	check                       uint32
	right, wrong                api.Errno
}

func answersOf(text string) answers {
	a := answers{hash: larder.Hash(text), tag: larder.Mac("key", text), code: larder.Encode(text, false), check: larder.Crc(text)}
	a.text, a.right = larder.Decode(a.code, false)
	a.none, a.wrong = larder.Decode(a.code+"%", false)
	return a
}

// What was called before, or is called at the same time, changes no answer.
func TestP2AnswersHangOnArgumentsAlone(t *testing.T) {
	texts := []string{"", "abc", "a b/c", strings.Repeat("\xff", 200)}
	var first [4]answers
	for i, text := range texts {
		first[i] = answersOf(text)
	}
	var wait sync.WaitGroup
	for i := range 40 {
		wait.Go(func() {
			if again := answersOf(texts[i%4]); again != first[i%4] {
				t.Errorf("%.20q: %+v, then %+v", texts[i%4], first[i%4], again)
			}
		})
	}
	wait.Wait()
}

package larder_test

import (
	"math"
	"reflect"
	"slices"
	"strings"
	"sync"
	"testing"

	"larder/api"
	"larder/larder"
)

// That this test comes to its end says that each call has, without a panic.
func TestP1EveryCallOfStoresEnds(t *testing.T) {
	s := withBox(t)
	log := s.Log()
	for _, text := range append(oddTexts(), logsOfBytes()...) {
		s.Do(text)
		for _, target := range []string{"/", "/box/k", "/box?policy", "/box?max=1"} {
			s.Do("GET " + target + "\nauth: " + text + "\n\n")
			s.Do(byHeader("al", noon, "GET", target+text, ""))
		}
		larder.New(api.Config{Users: []api.User{{Name: text, Secret: text}}, Room: len(text), Clock: len(text)})
		larder.Open(configOf(200, 0), text)
		larder.Open(configOf(200, 0), log+text)
	}
	for _, number := range []int{math.MinInt, math.MinInt + 1, -1, 0, 1, api.MaxClock, math.MaxInt - noon, math.MaxInt} {
		s.Tick(number)
		larder.New(configOf(number, number))
		larder.Open(configOf(number, number), log)
	}
	s.Clock()
}

// logsOfBytes makes texts whose first bytes are lengths and letters of frames.
func logsOfBytes() []string {
	var texts []string
	for i := range 256 {
		b := string([]byte{byte(i)})
		texts = append(texts, b, b+b, "\x00"+b, frameOf(b), frameOf(b+"\xff"), frameOf(b+"\x03box"), frameOf("O\x03box"+b), frameOf("P\x03box\x00"+b))
	}
	return texts
}

func TestP1WithAnErrorThereIsNoStore(t *testing.T) {
	frame := frameOf("B\x03box\x02al")
	if s, errno := larder.New(configOf(199, 0)); s != nil || errno != api.ErrConfig {
		t.Errorf("New = %v, %d", s, errno)
	}
	for log, want := range map[string]api.Errno{frame: api.ErrConfig, frame + strings.Repeat("x", 20000): api.ErrConfig} {
		if s, size, errno := larder.Open(configOf(199, 0), log); s != nil || size != 0 || errno != want {
			t.Errorf("Open of %d bytes = %v, %d, %d, want %d", len(log), s, size, errno, want)
		}
	}
	if s, size, errno := larder.Open(configOf(200, 0), frame+strings.Repeat("x", 20000)); s != nil || size != 0 || errno != api.ErrLong {
		t.Errorf("Open of a long log = %v, %d, %d", s, size, errno)
	}
}

func TestP2UsersAreNotChangedAndNotKept(t *testing.T) {
	makers := []func(c api.Config) *larder.Store{
		func(c api.Config) *larder.Store { s, _ := larder.New(c); return s },
		func(c api.Config) *larder.Store { s, _, _ := larder.Open(c, frameOf("B\x03bin\x02bo")); return s },
	}
	for _, make := range makers {
		c := configOf(200, noon)
		before := slices.Clone(c.Users)
		s := make(c)
		wantSteps(t, s, step{"al", "PUT", "/box", "", done}, step{"al", "PUT", "/box/k", "hi", versioned(1)})
		if !reflect.DeepEqual(c.Users, before) {
			t.Errorf("the users are %v, and were %v", c.Users, before)
		}
		users := c.Users[:cap(c.Users)]
		for i := range users {
			users[i] = api.User{Name: "dee", Secret: secretOf("dee")}
		}
		wantSteps(t, s, step{"dee", "PUT", "/new", "", no}, step{"al", "GET", "/box/k", "", told(1, "hi")}, step{"bo", "PUT", "/bos", "", done})
	}
}

// runOf does one run of requests with a new store, and tells all that comes out.
func runOf(t *testing.T) string {
	s := newStore(t, 300)
	out := ""
	for _, a := range []ask{
		{user: "al", method: "PUT", bucket: "box"}, {user: "al", method: "PUT", bucket: "box", key: "b", body: "hi"}, {user: "al", method: "PUT", bucket: "box", key: "a", body: "ho"}, {user: "al", method: "PUT", bucket: "box", key: "c"},
		{user: "al", method: "GET", bucket: "box"}, {user: "bo", method: "GET", bucket: "box"}, {user: "al", method: "DELETE", bucket: "box", key: "a"}, {user: "al", method: "GET", bucket: "box", query: map[string]string{"max": "1"}},
		{user: "al", method: "PUT", bucket: "box", key: "d", body: strings.Repeat("b", 300)}, {user: "al", method: "PUT", bucket: "box", query: map[string]string{"policy": ""}, body: emptyPolicy}, {user: "al", method: "GET", bucket: "box", query: map[string]string{"policy": ""}},
	} {
		out += s.Do(byHeader(a.user, noon, a.method, a.target(), a.body)) + s.Log()
	}
	return out
}

// What was done with one store, before or at the same time, is not seen in another.
func TestP2StoresShareNothing(t *testing.T) {
	first := runOf(t)
	var wait sync.WaitGroup
	for range 20 {
		wait.Go(func() {
			if again := runOf(t); again != first {
				t.Errorf("%q, then %q", first, again)
			}
		})
	}
	wait.Wait()
	one, two := newStore(t, 200), newStore(t, 200)
	wantSteps(t, one, step{"al", "PUT", "/box", "", done}, step{"al", "PUT", "/box/k", "one", versioned(1)})
	wantSteps(t, two, step{"al", "GET", "/box", "", none}, step{"bo", "PUT", "/box", "", done}, step{"bo", "PUT", "/box/k", "two", versioned(1)})
	wantSteps(t, one, step{"al", "GET", "/box/k", "", told(1, "one")}, step{"bo", "GET", "/box/k", "", no})
	one.Tick(1000)
	if two.Clock() != noon {
		t.Errorf("the clock of one store went on by the other's")
	}
}

// What came out before stays as it came.
func TestP2WhatCameOutStays(t *testing.T) {
	s := withBox(t)
	log, answer := s.Log(), s.Do(byHeader("al", noon, "GET", "/box/k", ""))
	logCopy, answerCopy := strings.Clone(log), strings.Clone(answer)
	for range 50 {
		s.Do(byHeader("al", noon, "PUT", "/box/k", "other"))
		s.Do(byHeader("al", noon, "DELETE", "/box/k?version=1", ""))
	}
	if log != logCopy || answer != answerCopy {
		t.Errorf("what came out before has changed: %q, %q", log, answer)
	}
}

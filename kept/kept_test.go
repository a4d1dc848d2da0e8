package kept

import (
	"errors"
	"maps"
	"math/rand"
	"reflect"
	"slices"
	"strings"
	"testing"

	"larder/answer"
	"larder/frame"
)

const policy = `{"rules":[]}`

// copyOf makes a store that shares nothing with another.
func copyOf(s *Store) *Store {
	c := *s
	c.log = slices.Clone(s.log)
	c.buckets = maps.Clone(s.buckets)
	c.versions = map[place][]version{}
	for at, versions := range s.versions {
		c.versions[at] = slices.Clone(versions)
	}
	return &c
}

func isSame(a *Store, b *Store) bool {
	return string(a.log) == string(b.log) && a.last == b.last && reflect.DeepEqual(a.buckets, b.buckets) && reflect.DeepEqual(a.versions, b.versions)
}

func randomChange(r *rand.Rand) Change {
	pick := func(texts ...string) string { return texts[r.Intn(len(texts))] }
	bucket, key := pick("box", "box", "box", "bin", "no"), pick("a", "a", "b", "a/b", "\x7f", "")
	switch r.Intn(9) {
	case 0:
		return MakeBucket{Bucket: bucket, Owner: pick("al", "bo", "cy")}
	case 1:
		return SetPolicy{Bucket: bucket, Policy: pick(policy, policy+" ", "{}", "x", strings.Repeat(" ", 289)+policy)}
	case 2:
		return DropPolicy{Bucket: bucket}
	case 3, 4:
		return Put{Bucket: bucket, Key: key, Body: strings.Repeat("b", r.Intn(4)*101)}
	case 5:
		return Mark{Bucket: bucket, Key: key}
	}
	return DropVersion{Bucket: bucket, Key: key, Number: r.Intn(12)}
}

// A change that may not be changes nothing; one that may be is taken back without a trace.
func TestChangesAreTakenBack(t *testing.T) {
	r := rand.New(rand.NewSource(15))
	taken := map[reflect.Type]int{}
	for range 200 {
		s := Open([]string{"al", "bo"}, 20000, "")
		for range 40 {
			change, before := randomChange(r), copyOf(s)
			takeBack, err := change.begin(s)
			if err == nil {
				if _, again := change.(SetPolicy); isSame(s, before) && !again {
					t.Fatalf("%#v changed nothing", change)
				}
				takeBack()
				taken[reflect.TypeOf(change)]++
			}
			if !isSame(s, before) {
				t.Fatalf("%#v (%v) left a trace: %+v, before %+v", change, err, s, before)
			}
			if again := s.Do(change); (again == nil) != (err == nil) {
				t.Fatalf("%#v: %v, and once it was taken back: %v", change, err, again)
			}
		}
	}
	if len(taken) != 6 {
		t.Errorf("of six kinds of changes these were taken back: %v", taken)
	}
}

// With each room, from none to enough for all: a change is done whole, its frame in the log, or nothing has changed.
func TestDoKeepsToTheRoom(t *testing.T) {
	changes := []Change{
		MakeBucket{Bucket: "box", Owner: "al"}, SetPolicy{Bucket: "box", Policy: policy}, Put{Bucket: "box", Key: "k", Body: "hi"}, Put{Bucket: "box", Key: "k", Body: ""},
		Mark{Bucket: "box", Key: "k"}, DropVersion{Bucket: "box", Key: "k", Number: 2}, DropVersion{Bucket: "box", Key: "k", Number: 1}, DropVersion{Bucket: "box", Key: "k", Number: 3}, DropPolicy{Bucket: "box"},
	}
	for room := range 200 {
		s := Open([]string{"al"}, room, "")
		for _, change := range changes {
			before, text := copyOf(s), frame.Of(change.body())
			_, err := change.begin(copyOf(s))
			mayBe := err == nil
			err = s.Do(change)
			switch hasRoom := len(before.log)+len(text) <= room; {
			case mayBe && hasRoom:
				if err != nil || s.Log() != before.Log()+text {
					t.Errorf("room %d: %#v: %v, the log %q, before %q", room, change, err, s.Log(), before.Log())
				}
			case mayBe:
				if !errors.Is(err, errNoRoom) || !strings.HasPrefix(err.Error(), "507") || !isSame(s, before) {
					t.Errorf("room %d: %#v: %v, %+v, before %+v", room, change, err, s, before)
				}
			default:
				if err == nil || errors.Is(err, errNoRoom) || !isSame(s, before) {
					t.Errorf("room %d: %#v, which may not be: %v, %+v, before %+v", room, change, err, s, before)
				}
			}
		}
	}
}

// Opened again, a store is in all what it was.
func TestOpenComesToTheSame(t *testing.T) {
	r := rand.New(rand.NewSource(16))
	for range 300 {
		s := Open([]string{"al", "bo"}, r.Intn(4000), "")
		for range 40 {
			s.Do(randomChange(r))
		}
		if again := Open([]string{"al", "bo"}, 0, s.Log()); !isSame(s, again) {
			t.Fatalf("%+v, opened again: %+v", s, again)
		}
	}
}

// What was begun and taken back is not seen by what is done next.
func TestVersionsDoNotShare(t *testing.T) {
	s := Open([]string{"al"}, 20000, "")
	s.Do(MakeBucket{Bucket: "box", Owner: "al"})
	for _, body := range []string{"one", "two", "three", "four", "five"} {
		s.Do(Put{Bucket: "box", Key: "k", Body: body})
	}
	for number, want := range map[int]string{1: "one", 3: "three", 5: "five"} {
		takeBack, _ := DropVersion{Bucket: "box", Key: "k", Number: number}.begin(s)
		undoPut, _ := Put{Bucket: "box", Key: "k", Body: "six"}.begin(s)
		undoPut()
		takeBack()
		if _, body, err := s.Version("box", "k", number); body != want || err != nil {
			t.Errorf("version %d is %q, %v, want %q", number, body, err, want)
		}
	}
	if number, body, err := s.Version("box", "k", 0); number != 5 || body != "five" || err != nil {
		t.Errorf("the latest is %d, %q, %v", number, body, err)
	}
}

func TestRefusalsCarryTheirAnswers(t *testing.T) {
	s := Open([]string{"al"}, 20000, "")
	s.Do(MakeBucket{Bucket: "box", Owner: "al"})
	for _, c := range []struct {
		change Change
		want   string
	}{
		{MakeBucket{Bucket: "box", Owner: "al"}, "409 There\n\n"}, {MakeBucket{Bucket: "no", Owner: "al"}, "400 Bad\n\n"}, {MakeBucket{Bucket: "bin", Owner: "bo"}, "400 Bad\n\n"},
		{SetPolicy{Bucket: "bin", Policy: "x"}, "404 None\n\n"}, {SetPolicy{Bucket: "box", Policy: "x"}, "400 Bad\n\n"}, {DropPolicy{Bucket: "box"}, "404 None\n\n"}, {DropPolicy{Bucket: "bin"}, "404 None\n\n"},
		{Put{Bucket: "bin", Key: "k"}, "404 None\n\n"}, {Put{Bucket: "box", Key: ""}, "400 Bad\n\n"}, {Put{Bucket: "box", Key: "k", Body: strings.Repeat("b", 301)}, "413 Long\n\n"},
		{Mark{Bucket: "bin", Key: "k"}, "404 None\n\n"}, {Mark{Bucket: "box", Key: "\n"}, "400 Bad\n\n"}, {DropVersion{Bucket: "box", Key: "k", Number: 1}, "404 None\n\n"},
	} {
		if got := answer.Write(answer.Response{}, s.Do(c.change)); got != c.want {
			t.Errorf("%#v: %q, want %q", c.change, got, c.want)
		}
	}
	var fault answer.Fault
	if err := s.Do(SetPolicy{Bucket: "box", Policy: "x"}); !errors.As(err, &fault) {
		t.Errorf("%v does not tell what is wrong with the policy", err)
	}
}

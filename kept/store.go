// Package kept: what is kept, and the log of it.
package kept

import (
	"errors"
	"slices"
	"strings"

	"larder/answer"
	"larder/frame"
	"larder/rules"
)

var errNoRoom = errors.New("the log has no room for the frame")

// Store has buckets with versions of keys in them, and the log of the changes that they came of.
type Store struct {
	users    []string // who may own a bucket
	room     int      // bytes that the log may have
	log      []byte
	buckets  map[string]bucket
	versions map[place][]version // in rising order; none is empty
	last     int                 // the number that was given last
}

type bucket struct {
	owner  string
	policy string // the empty text is no policy: so it says that there is none
	rules  rules.Policy
}

// place is where versions lie.
type place struct {
	bucket, key string
}

type version struct {
	number int
	isMark bool
	body   string
}

// Open makes the store that a log says, whose log is the bytes that were right.
func Open(users []string, room int, log string) *Store {
	s := &Store{users: users, room: room, buckets: map[string]bucket{}, versions: map[place][]version{}}
	for {
		change, size, right := firstChange(log)
		if !right {
			return s
		}
		if _, err := change.begin(s); err != nil {
			return s
		}
		s.log = append(s.log, log[:size]...)
		log = log[size:]
	}
}

// Log gives the log.
func (s *Store) Log() string { return string(s.log) }

// Last tells the number that was given last.
func (s *Store) Last() int { return s.last }

// Do makes a change and adds its frame to the log. With an error nothing has changed.
func (s *Store) Do(change Change) (err error) {
	takeBack, err := change.begin(s)
	if err != nil {
		return err
	}
	defer func() {
		if err != nil {
			takeBack()
		}
	}()
	return s.write(frame.Of(change.body()))
}

func (s *Store) write(text string) error {
	if len(s.log)+len(text) > s.room {
		return answer.Refuse(answer.Full, errNoRoom)
	}
	s.log = append(s.log, text...)
	return nil
}

// May tells whether a user may do something in a bucket: a refusal, if there is no such bucket, or they may not.
func (s *Store) May(user string, action string, name string, key string) error {
	b, there := s.buckets[name]
	if !there {
		return answer.Refuse(answer.None, nil)
	}
	says := b.rules.Says(user, action, key)
	if says == rules.Denies || says == rules.Silent && user != b.owner {
		return answer.Refuse(answer.No, nil)
	}
	return nil
}

// Policy tells a bucket's policy: a refusal, if it has none.
func (s *Store) Policy(name string) (string, error) {
	policy := s.buckets[name].policy
	if policy == "" {
		return "", answer.Refuse(answer.None, nil)
	}
	return policy, nil
}

// Version tells the number and the body of the version that has this number, or of the latest, if the number is 0: a refusal, if there is none or it is a mark.
func (s *Store) Version(name string, key string, number int) (int, string, error) {
	versions := s.versions[place{bucket: name, key: key}]
	i := indexOf(versions, number)
	if number == 0 {
		i = len(versions) - 1
	}
	if i < 0 || versions[i].isMark {
		return 0, "", answer.Refuse(answer.None, nil)
	}
	return versions[i].number, versions[i].body, nil
}

// indexOf is below 0 if there is no version of this number.
func indexOf(versions []version, number int) int {
	return slices.IndexFunc(versions, func(v version) bool { return v.number == number })
}

// Entry is what a list tells of a key: its latest version's number, and how many bytes that has.
type Entry struct {
	Key          string
	Number, Size int
}

// List tells the keys of a bucket that begin with a prefix and stand behind another text, but none whose latest version is a mark.
func (s *Store) List(name string, prefix string, after string) []Entry {
	var entries []Entry
	for at, versions := range s.versions {
		latest := versions[len(versions)-1]
		if at.bucket == name && strings.HasPrefix(at.key, prefix) && at.key > after && !latest.isMark {
			entries = append(entries, Entry{Key: at.key, Number: latest.number, Size: len(latest.body)})
		}
	}
	slices.SortFunc(entries, func(a Entry, b Entry) int { return strings.Compare(a.Key, b.Key) })
	return entries
}

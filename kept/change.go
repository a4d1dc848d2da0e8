package kept

import (
	"slices"
	"strings"

	"larder/answer"
	"larder/api"
	"larder/frame"
	"larder/names"
	"larder/rules"
)

// Change is what a frame of the log says.
type Change interface {
	// begin makes the change in what is kept, and gives the way back: a refusal, if the change may not be.
	begin(s *Store) (takeBack func(), err error)
	// body tells the change as the body of a frame.
	body() string
}

// MakeBucket makes a bucket.
type MakeBucket struct{ Bucket, Owner string }

// SetPolicy gives a bucket a policy, in place of the one that it has.
type SetPolicy struct{ Bucket, Policy string }

// DropPolicy takes a bucket's policy away.
type DropPolicy struct{ Bucket string }

// Put gives a key a version with a body.
type Put struct{ Bucket, Key, Body string }

// Mark gives a key a version that is a mark.
type Mark struct{ Bucket, Key string }

// DropVersion takes a version away.
type DropVersion struct {
	Bucket, Key string
	Number      int
}

// The letters with which the bodies begin.
const (
	letterOfMakeBucket  = "B"
	letterOfSetPolicy   = "P"
	letterOfDropPolicy  = "U"
	letterOfPut         = "O"
	letterOfMark        = "M"
	letterOfDropVersion = "X"
)

func (c MakeBucket) body() string {
	return letterOfMakeBucket + frame.Short(c.Bucket) + frame.Short(c.Owner)
}

func (c SetPolicy) body() string {
	return letterOfSetPolicy + frame.Short(c.Bucket) + frame.Long(c.Policy)
}

func (c DropPolicy) body() string {
	return letterOfDropPolicy + frame.Short(c.Bucket)
}

func (c Put) body() string {
	return letterOfPut + frame.Short(c.Bucket) + frame.Short(c.Key) + frame.Long(c.Body)
}

func (c Mark) body() string {
	return letterOfMark + frame.Short(c.Bucket) + frame.Short(c.Key)
}

func (c DropVersion) body() string {
	return letterOfDropVersion + frame.Short(c.Bucket) + frame.Short(c.Key) + frame.Number(c.Number)
}

// firstChange reads the first frame of a log: the change, how many bytes the frame has, and whether it is right but for what may be.
func firstChange(log string) (Change, int, bool) {
	body, size, right := frame.First(log)
	if !right {
		return nil, 0, false
	}
	// A copy, since a log that is handed in is not kept, nor a piece of it.
	change, right := readChange(strings.Clone(body))
	return change, size, right
}

func readChange(body string) (Change, bool) {
	var change Change
	r := frame.Read(body)
	switch r.Letter() {
	case letterOfMakeBucket:
		change = MakeBucket{Bucket: r.Short(), Owner: r.Short()}
	case letterOfSetPolicy:
		change = SetPolicy{Bucket: r.Short(), Policy: r.Long()}
	case letterOfDropPolicy:
		change = DropPolicy{Bucket: r.Short()}
	case letterOfPut:
		change = Put{Bucket: r.Short(), Key: r.Short(), Body: r.Long()}
	case letterOfMark:
		change = Mark{Bucket: r.Short(), Key: r.Short()}
	case letterOfDropVersion:
		change = DropVersion{Bucket: r.Short(), Key: r.Short(), Number: r.Number()}
	default:
		return nil, false
	}
	return change, r.Ended()
}

func (c MakeBucket) begin(s *Store) (func(), error) {
	if !names.IsBucket(c.Bucket) || !slices.Contains(s.users, c.Owner) {
		return nil, answer.Refuse(answer.Bad, nil)
	}
	if _, there := s.buckets[c.Bucket]; there {
		return nil, answer.Refuse(answer.There, nil)
	}
	return set(s.buckets, c.Bucket, bucket{owner: c.Owner}), nil
}

func (c SetPolicy) begin(s *Store) (func(), error) {
	b, there := s.buckets[c.Bucket]
	if !there {
		return nil, answer.Refuse(answer.None, nil)
	}
	read, errno := rules.Read(c.Policy)
	if errno != api.OK {
		return nil, answer.Refuse(answer.Bad, answer.Fault(errno))
	}
	return set(s.buckets, c.Bucket, bucket{owner: b.owner, policy: c.Policy, rules: read}), nil
}

func (c DropPolicy) begin(s *Store) (func(), error) {
	if _, err := s.Policy(c.Bucket); err != nil {
		return nil, err
	}
	return set(s.buckets, c.Bucket, bucket{owner: s.buckets[c.Bucket].owner}), nil
}

func (c Put) begin(s *Store) (func(), error) {
	if len(c.Body) > api.MaxBody {
		return nil, answer.Refuse(answer.Long, nil)
	}
	return s.add(place{bucket: c.Bucket, key: c.Key}, version{body: c.Body})
}

func (c Mark) begin(s *Store) (func(), error) {
	return s.add(place{bucket: c.Bucket, key: c.Key}, version{isMark: true})
}

// add gives a version the next number.
func (s *Store) add(at place, v version) (func(), error) {
	if _, there := s.buckets[at.bucket]; !there {
		return nil, answer.Refuse(answer.None, nil)
	}
	if !names.IsKey(at.key) {
		return nil, answer.Refuse(answer.Bad, nil)
	}
	s.last++
	v.number = s.last
	takeBack := set(s.versions, at, append(s.versions[at], v))
	return func() {
		takeBack()
		s.last--
	}, nil
}

func (c DropVersion) begin(s *Store) (func(), error) {
	at := place{bucket: c.Bucket, key: c.Key}
	versions := s.versions[at]
	i := indexOf(versions, c.Number)
	if i < 0 {
		return nil, answer.Refuse(answer.None, nil)
	}
	if len(versions) == 1 {
		delete(s.versions, at)
		return func() { s.versions[at] = versions }, nil
	}
	// A new list, since the old one may come back.
	return set(s.versions, at, slices.Concat(versions[:i], versions[i+1:])), nil
}

// set puts a value into a map, and gives the way back.
func set[K comparable, V any](values map[K]V, key K, value V) (takeBack func()) {
	old, there := values[key]
	values[key] = value
	return func() {
		if there {
			values[key] = old
		} else {
			delete(values, key)
		}
	}
}

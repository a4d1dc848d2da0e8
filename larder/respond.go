package larder

import (
	"strconv"
	"strings"

	"larder/answer"
	"larder/api"
	"larder/ask"
	"larder/code"
	"larder/kept"
	"larder/proof"
	"larder/request"
)

// respond does what a request asks for: a refusal, if it may not be.
func (s *Store) respond(text string) (answer.Response, error) {
	user, asked, err := s.read(text)
	if err != nil {
		return answer.Response{}, err
	}
	// Whoever signs may make a bucket: there is no policy yet to say who may not.
	if asked.Kind != ask.MakeBucket {
		err = s.kept.May(user, asked.Action, asked.Bucket, asked.Key)
	}
	if err != nil {
		return answer.Response{}, err
	}
	return s.serve(user, asked)
}

// read tells who asks, and for what.
func (s *Store) read(text string) (string, ask.Ask, error) {
	parts, errno := request.Parse(text)
	switch errno {
	case api.OK:
	case api.ErrLong:
		return "", ask.Ask{}, answer.Refuse(answer.Long, answer.Fault(errno))
	default:
		return "", ask.Ask{}, answer.Refuse(answer.Bad, answer.Fault(errno))
	}
	user, err := proof.Who(parts, s.users, s.clock)
	if err != nil {
		return "", ask.Ask{}, err
	}
	asked, err := ask.Read(parts)
	return user, asked, err
}

// serve does what a user asks for who may.
func (s *Store) serve(user string, asked ask.Ask) (answer.Response, error) {
	switch asked.Kind {
	case ask.MakeBucket:
		return s.change(kept.MakeBucket{Bucket: asked.Bucket, Owner: user})
	case ask.PutPolicy:
		return s.change(kept.SetPolicy{Bucket: asked.Bucket, Policy: asked.Body})
	case ask.GetPolicy:
		return s.getPolicy(asked)
	case ask.DeletePolicy:
		return s.change(kept.DropPolicy{Bucket: asked.Bucket})
	case ask.List:
		return s.list(asked), nil
	case ask.Put:
		return s.addVersion(kept.Put{Bucket: asked.Bucket, Key: asked.Key, Body: asked.Body})
	case ask.Get:
		return s.get(asked)
	case ask.Delete:
		return s.addVersion(kept.Mark{Bucket: asked.Bucket, Key: asked.Key})
	}
	return s.dropVersion(asked)
}

func (s *Store) change(change kept.Change) (answer.Response, error) {
	return answer.Response{}, s.kept.Do(change)
}

func (s *Store) addVersion(change kept.Change) (answer.Response, error) {
	err := s.kept.Do(change)
	return answer.Response{Headers: []api.Pair{versionHeader(s.kept.Last())}}, err
}

func (s *Store) dropVersion(asked ask.Ask) (answer.Response, error) {
	err := s.kept.Do(kept.DropVersion{Bucket: asked.Bucket, Key: asked.Key, Number: asked.Version})
	return answer.Response{Headers: []api.Pair{versionHeader(asked.Version)}}, err
}

func (s *Store) getPolicy(asked ask.Ask) (answer.Response, error) {
	policy, err := s.kept.Policy(asked.Bucket)
	return answer.Response{Headers: []api.Pair{lengthHeader(policy)}, Body: policy}, err
}

func (s *Store) get(asked ask.Ask) (answer.Response, error) {
	number, body, err := s.kept.Version(asked.Bucket, asked.Key, asked.Version)
	return answer.Response{Headers: []api.Pair{versionHeader(number), lengthHeader(body)}, Body: body}, err
}

func (s *Store) list(asked ask.Ask) answer.Response {
	entries := s.kept.List(asked.Bucket, asked.Prefix, asked.After)
	more := len(entries) > asked.Max
	if more {
		entries = entries[:asked.Max]
	}
	var lines strings.Builder
	for _, entry := range entries {
		lines.WriteString(code.Encode(entry.Key, false) + " " + strconv.Itoa(entry.Number) + " " + strconv.Itoa(entry.Size) + "\n")
	}
	moreHeader := api.Pair{Name: "more", Value: strconv.FormatBool(more)}
	return answer.Response{Headers: []api.Pair{lengthHeader(lines.String()), moreHeader}, Body: lines.String()}
}

func versionHeader(number int) api.Pair {
	return api.Pair{Name: "version", Value: strconv.Itoa(number)}
}

func lengthHeader(body string) api.Pair {
	return api.Pair{Name: "length", Value: strconv.Itoa(len(body))}
}

// Package larder: things kept under names, for those who can prove who they are: see DOC.md.
package larder

import (
	"larder/answer"
	"larder/api"
	"larder/code"
	"larder/kept"
	"larder/mark"
	"larder/proof"
	"larder/request"
	"larder/rules"
)

// Store is what is kept, with its log and its clock.
type Store struct {
	users []api.User
	clock int
	kept  *kept.Store
}

// Hash tells the hash of a text (P3).
func Hash(text string) string { return mark.Digits(mark.Hash(text)) }

// Mac tells the tag of a text under a key (P3).
func Mac(key string, text string) string { return mark.Digits(mark.Tag(key, text)) }

// Crc tells the check of a text (P3).
func Crc(text string) uint32 { return mark.Check(text) }

// Encode tells the code of a text (P4).
func Encode(text string, path bool) string { return code.Encode(text, path) }

// Decode tells the text of a code (P4).
func Decode(text string, path bool) (string, api.Errno) { return code.Decode(text, path) }

// Parse takes a request apart (P5).
func Parse(text string) (api.Request, api.Errno) { return request.Parse(text) }

// Canon tells the canonical form of a request (P6).
func Canon(text string, list string) (string, api.Errno) {
	parts, errno := request.Parse(text)
	if errno != api.OK {
		return "", errno
	}
	return proof.Canon(parts, list)
}

// Sign tells a signature (P6).
func Sign(secret string, second int, canon string) (string, api.Errno) {
	return proof.Sign(secret, second, canon)
}

// Policy tells whether a text is a policy (P7).
func Policy(text string) api.Errno {
	_, errno := rules.Read(text)
	return errno
}

// Rule tells what a policy says of a user, an action and a key (P7).
func Rule(policy string, user string, action string, key string) (int, api.Errno) {
	read, errno := rules.Read(policy)
	if errno != api.OK {
		return 0, errno
	}
	return read.Says(user, action, key), api.OK
}

// New makes a store (P8).
func New(c api.Config) (*Store, api.Errno) {
	s, _, errno := Open(c, "")
	return s, errno
}

// Open makes a store of a log (P11).
func Open(c api.Config, log string) (*Store, int, api.Errno) {
	if !isConfig(c) {
		return nil, 0, api.ErrConfig
	}
	if len(log) > api.MaxRoom {
		return nil, 0, api.ErrLong
	}
	users := copyUsers(c.Users)
	s := &Store{users: users, clock: c.Clock, kept: kept.Open(namesOf(users), c.Room, log)}
	return s, len(s.Log()), api.OK
}

// Do answers a request (P9).
func (s *Store) Do(text string) string { return answer.Write(s.respond(text)) }

// Tick lets the clock go on (P8).
func (s *Store) Tick(seconds int) api.Errno {
	if seconds < 0 || seconds > api.MaxClock-s.clock {
		return api.ErrNumber
	}
	s.clock += seconds
	return api.OK
}

// Clock tells the second (P8).
func (s *Store) Clock() int { return s.clock }

// Log gives the log (P10).
func (s *Store) Log() string { return s.kept.Log() }

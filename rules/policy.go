// Package rules: policies, which say who may do what with which keys of a bucket.
package rules

import "slices"

// What a policy says of a user, an action and a key: where several rules speak, the greatest goes.
const (
	Silent = 0
	Allows = 1
	Denies = 2
)

// all stands in a rule for each user, or for each action.
const all = "*"

// Policy is the rules by which it is told who may.
type Policy struct {
	rules []rule
}

// rule says the same of each of its users, doing each of its actions on each key that a pattern fits.
type rule struct {
	says        int
	who, do, on []string
}

// Says tells what a policy says of a user, an action and a key.
func (p Policy) Says(user string, action string, key string) int {
	says := Silent
	for _, r := range p.rules {
		if r.speaksOf(user, action, key) {
			says = max(says, r.says)
		}
	}
	return says
}

func (r rule) speaksOf(user string, action string, key string) bool {
	return has(r.who, user) && has(r.do, action) && slices.ContainsFunc(r.on, func(pattern string) bool {
		return fits(pattern, key)
	})
}

func has(names []string, name string) bool {
	return slices.Contains(names, name) || slices.Contains(names, all)
}

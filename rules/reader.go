package rules

import (
	"larder/api"
	"larder/json"
	"larder/names"
)

// noPolicy is what the reader panics with where a JSON value is no policy.
type noPolicy struct{}

// Read tells the policy of a text: ErrLong, if it is too long; ErrForm, if it is no JSON; ErrPolicy, if it is no policy.
func Read(text string) (policy Policy, errno api.Errno) {
	// Whatever comes up is caught, not noPolicy alone: no call may panic.
	defer func() {
		if recover() != nil {
			policy, errno = Policy{}, api.ErrPolicy
		}
	}()
	if len(text) > api.MaxBody {
		return Policy{}, api.ErrLong
	}
	value, errno := json.Read(text)
	if errno != api.OK {
		return Policy{}, errno
	}
	return readPolicy(value), api.OK
}

// need gives up if what must hold does not.
func need(holds bool) {
	if !holds {
		panic(noPolicy{})
	}
}

func readPolicy(value json.Value) Policy {
	values := arrayOf(find(membersOf(value, 1), "rules"))
	need(len(values) <= api.MaxRules)
	var policy Policy
	for _, value := range values {
		policy.rules = append(policy.rules, readRule(value))
	}
	return policy
}

// readRule finds four names among four members: so none is there twice, and no other.
func readRule(value json.Value) rule {
	members := membersOf(value, 4)
	return rule{
		says: readEffect(find(members, "effect")),
		who:  readList(find(members, "who"), isWho),
		do:   readList(find(members, "do"), isAction),
		on:   readList(find(members, "on"), isPattern),
	}
}

func readEffect(value json.Value) int {
	switch textOf(value) {
	case "allow":
		return Allows
	case "deny":
		return Denies
	}
	panic(noPolicy{})
}

// readList reads the texts of an array, of which each must be right.
func readList(value json.Value, isRight func(text string) bool) []string {
	values := arrayOf(value)
	need(1 <= len(values) && len(values) <= api.MaxList)
	var texts []string
	for _, value := range values {
		text := textOf(value)
		need(isRight(text))
		texts = append(texts, text)
	}
	return texts
}

func isWho(text string) bool {
	return text == all || names.IsUser(text)
}

func isAction(text string) bool {
	switch text {
	case "get", "put", "delete", "list", "policy", all:
		return true
	}
	return false
}

// isPattern: each text is one, since each byte of it stands for itself, for any one or for any.
func isPattern(text string) bool { return true }

// membersOf gives up if a value is no object of so many members.
func membersOf(value json.Value, count int) json.Object {
	switch value := value.(type) {
	case json.Object:
		need(len(value) == count)
		return value
	}
	panic(noPolicy{})
}

// find gives up if no member has this name.
func find(members json.Object, name string) json.Value {
	for _, member := range members {
		if member.Name == name {
			return member.Value
		}
	}
	panic(noPolicy{})
}

func arrayOf(value json.Value) json.Array {
	switch value := value.(type) {
	case json.Array:
		return value
	}
	panic(noPolicy{})
}

func textOf(value json.Value) string {
	switch value := value.(type) {
	case json.String:
		return string(value)
	}
	panic(noPolicy{})
}

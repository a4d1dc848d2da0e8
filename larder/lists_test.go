package larder_test

import (
	"strconv"
	"strings"
	"testing"
)

func TestP9ListsOfKeys(t *testing.T) {
	s := newStore(t, 20000)
	wantSteps(t, s,
		step{"al", "PUT", "/box", "", done}, step{"al", "GET", "/box", "", listed(false)},
		step{"al", "PUT", "/bin", "", done},
		step{"al", "PUT", "/box/b", "1", versioned(1)}, step{"al", "PUT", "/box/a", "12", versioned(2)}, step{"al", "PUT", "/box/a/b", "123", versioned(3)},
		step{"al", "PUT", "/box/a%20b", "", versioned(4)}, step{"al", "PUT", "/box/B", "12345", versioned(5)}, step{"al", "PUT", "/bin/c", "", versioned(6)}, step{"al", "PUT", "/box/a-b", strings.Repeat("b", 300), versioned(7)}, step{"al", "PUT", "/box/b", "", versioned(8)},
		step{"al", "GET", "/box", "", listed(false, "B 5 5", "a 2 2", "a%20b 4 0", "a-b 7 300", "a%2Fb 3 3", "b 8 0")}, // by the keys' bytes, not by those of their codes
		step{"al", "GET", "/bin", "", listed(false, "c 6 0")},
		step{"al", "DELETE", "/box/a", "", versioned(9)}, step{"al", "DELETE", "/box/new", "", versioned(10)},
		step{"al", "GET", "/box", "", listed(false, "B 5 5", "a%20b 4 0", "a-b 7 300", "a%2Fb 3 3", "b 8 0")},
		step{"al", "DELETE", "/box/a?version=9", "", versioned(9)}, step{"al", "DELETE", "/box/b?version=8", "", versioned(8)}, step{"al", "DELETE", "/box/B?version=5", "", versioned(5)},
		step{"al", "GET", "/box", "", listed(false, "a 2 2", "a%20b 4 0", "a-b 7 300", "a%2Fb 3 3", "b 1 1")},
	)
	for query, want := range map[string]string{
		"?prefix":                        listed(false, "a 2 2", "a%20b 4 0", "a-b 7 300", "a%2Fb 3 3", "b 1 1"),
		"?prefix=a":                      listed(false, "a 2 2", "a%20b 4 0", "a-b 7 300", "a%2Fb 3 3"),
		"?prefix=a%2f":                   listed(false, "a%2Fb 3 3"),
		"?prefix=a%2Fb%2F":               listed(false),
		"?prefix=%FF":                    listed(false),
		"?after":                         listed(false, "a 2 2", "a%20b 4 0", "a-b 7 300", "a%2Fb 3 3", "b 1 1"),
		"?after=a":                       listed(false, "a%20b 4 0", "a-b 7 300", "a%2Fb 3 3", "b 1 1"),
		"?after=a%20":                    listed(false, "a%20b 4 0", "a-b 7 300", "a%2Fb 3 3", "b 1 1"),
		"?after=a%20b":                   listed(false, "a-b 7 300", "a%2Fb 3 3", "b 1 1"),
		"?after=a.":                      listed(false, "a%2Fb 3 3", "b 1 1"),
		"?after=b":                       listed(false),
		"?after=%00":                     listed(false, "a 2 2", "a%20b 4 0", "a-b 7 300", "a%2Fb 3 3", "b 1 1"),
		"?after=%FF":                     listed(false),
		"?max=1":                         listed(true, "a 2 2"),
		"?max=4":                         listed(true, "a 2 2", "a%20b 4 0", "a-b 7 300", "a%2Fb 3 3"),
		"?max=5":                         listed(false, "a 2 2", "a%20b 4 0", "a-b 7 300", "a%2Fb 3 3", "b 1 1"),
		"?max=50":                        listed(false, "a 2 2", "a%20b 4 0", "a-b 7 300", "a%2Fb 3 3", "b 1 1"),
		"?prefix=a&max=4":                listed(false, "a 2 2", "a%20b 4 0", "a-b 7 300", "a%2Fb 3 3"),
		"?max=3&prefix=a":                listed(true, "a 2 2", "a%20b 4 0", "a-b 7 300"),
		"?after=a&prefix=a&max=3":        listed(false, "a%20b 4 0", "a-b 7 300", "a%2Fb 3 3"),
		"?max=1&after=a%20b&prefix=a":    listed(true, "a-b 7 300"),
		"?prefix=b&after=a":              listed(false, "b 1 1"),
		"?prefix=a&after=b":              listed(false),
		"?%70refix=a&max=1&after=a%2Da9": listed(true, "a-b 7 300"),
	} {
		wantSteps(t, s, step{"al", "GET", "/box" + query, "", want})
	}
}

func TestP9ListsOfManyKeys(t *testing.T) {
	s := newStore(t, 20000)
	wantSteps(t, s, step{"al", "PUT", "/box", "", done})
	var lines []string
	for i := range 52 {
		key := "k" + strconv.Itoa(100+i)
		wantSteps(t, s, step{"al", "PUT", "/box/" + key, "", versioned(i + 1)})
		lines = append(lines, key+" "+strconv.Itoa(i+1)+" 0")
	}
	wantSteps(t, s,
		step{"al", "GET", "/box", "", listed(true, lines[:10]...)},
		step{"al", "GET", "/box?max=10", "", listed(true, lines[:10]...)},
		step{"al", "GET", "/box?max=11", "", listed(true, lines[:11]...)},
		step{"al", "GET", "/box?max=50", "", listed(true, lines[:50]...)},
		step{"al", "GET", "/box?max=50&after=k100", "", listed(true, lines[1:51]...)},
		step{"al", "GET", "/box?max=50&after=k101", "", listed(false, lines[2:]...)},
		step{"al", "GET", "/box?after=k140", "", listed(true, lines[41:51]...)},
		step{"al", "GET", "/box?after=k141", "", listed(false, lines[42:]...)},
		step{"al", "GET", "/box?prefix=k12", "", listed(false, lines[20:30]...)},
	)
}

func TestP9WhoMay(t *testing.T) {
	s := withBox(t)
	setPolicy := func(rules ...string) step { return step{"al", "PUT", "/box?policy", policyOf(rules...), done} }
	wantSteps(t, s,
		step{"bo", "GET", "/box/k", "", no},
		setPolicy(ruleOf("allow", `["bo"]`, `["get"]`, `["k*"]`)),
		step{"bo", "GET", "/box/k", "", told(1, "hi")}, step{"bo", "GET", "/box/k?version=1", "", told(1, "hi")}, step{"bo", "GET", "/box/k2", "", none}, step{"bo", "GET", "/box/j", "", no},
		step{"cy", "GET", "/box/k", "", no}, step{"bo", "PUT", "/box/k", "", no}, step{"bo", "DELETE", "/box/k", "", no}, step{"bo", "DELETE", "/box/k?version=1", "", no}, step{"bo", "GET", "/box", "", no}, step{"bo", "GET", "/box?policy", "", no},
		step{"al", "GET", "/box/k", "", told(1, "hi")}, step{"al", "GET", "/box", "", listed(false, "k 1 2")},

		setPolicy(ruleOf("allow", `["bo"]`, `["put"]`, `["k?"]`), ruleOf("allow", `["cy"]`, `["list"]`, `[""]`)),
		step{"bo", "PUT", "/box/k2", "ho", versioned(2)}, step{"bo", "PUT", "/box/k", "", no}, step{"bo", "GET", "/box/k2", "", no}, step{"bo", "DELETE", "/box/k2", "", no},
		step{"cy", "GET", "/box", "", listed(false, "k 1 2", "k2 2 2")}, step{"cy", "GET", "/box?prefix=k2", "", listed(false, "k2 2 2")}, step{"bo", "GET", "/box", "", no},

		setPolicy(ruleOf("allow", `["bo"]`, `["delete"]`, `["k2"]`), ruleOf("allow", `["bo"]`, `["list"]`, `["k"]`)),
		step{"bo", "DELETE", "/box/k2", "", versioned(3)}, step{"bo", "DELETE", "/box/k2?version=3", "", versioned(3)}, step{"bo", "DELETE", "/box/k", "", no}, step{"bo", "DELETE", "/box/k?version=1", "", no},
		step{"bo", "GET", "/box", "", no}, step{"bo", "GET", "/box?prefix=k", "", no}, // the key of a list is the empty text

		setPolicy(ruleOf("deny", `["*"]`, `["get"]`, `["k"]`), ruleOf("allow", `["bo"]`, `["*"]`, `["*"]`)),
		step{"al", "GET", "/box/k", "", no}, step{"bo", "GET", "/box/k", "", no}, step{"al", "GET", "/box/k2", "", told(2, "ho")}, step{"bo", "GET", "/box/k2", "", told(2, "ho")}, step{"bo", "PUT", "/box/k", "x", versioned(4)},
		step{"bo", "GET", "/box?policy", "", toldPolicy(policyOf(ruleOf("deny", `["*"]`, `["get"]`, `["k"]`), ruleOf("allow", `["bo"]`, `["*"]`, `["*"]`)))}, step{"cy", "GET", "/box?policy", "", no},

		setPolicy(ruleOf("allow", `["cy"]`, `["policy"]`, `["?*"]`), ruleOf("deny", `["al"]`, `["*"]`, `["*"]`), ruleOf("allow", `["*"]`, `["policy"]`, `["*"]`)),
		step{"al", "GET", "/box/k", "", no}, step{"al", "GET", "/box", "", no}, step{"al", "GET", "/box?policy", "", no}, step{"al", "PUT", "/box?policy", emptyPolicy, no}, step{"al", "DELETE", "/box?policy", "", no},
		step{"bo", "PUT", "/box?policy", policyOf(ruleOf("allow", `["*"]`, `["policy"]`, `["?*"]`)), done}, step{"bo", "DELETE", "/box?policy", "", no}, step{"al", "DELETE", "/box?policy", "", done},
		step{"al", "GET", "/box/k", "", told(4, "x")}, step{"bo", "GET", "/box/k", "", no},
	)
}

// A policy speaks of its own bucket alone.
func TestP9PoliciesStayInTheirBucket(t *testing.T) {
	s := withBox(t)
	wantSteps(t, s,
		step{"al", "PUT", "/bin", "", done}, step{"al", "PUT", "/bin/k", "ho", versioned(2)},
		step{"al", "PUT", "/bin?policy", policyOf(ruleOf("allow", `["bo"]`, `["*"]`, `["*"]`)), done},
		step{"bo", "GET", "/bin/k", "", told(2, "ho")}, step{"bo", "GET", "/box/k", "", no},
		step{"bo", "PUT", "/bos", "", done}, step{"al", "GET", "/bos", "", no},
	)
}

package larder_test

import (
	"math"
	"strconv"
	"strings"
	"testing"

	"larder/api"
	"larder/larder"
)

const (
	done  = "200 OK\n\n"
	bad   = "400 Bad\n\n"
	no    = "403 No\n\n"
	none  = "404 None\n\n"
	there = "409 There\n\n"
	long  = "413 Long\n\n"
	full  = "507 Full\n\n"

	noon = 5000 // the second at which stores begin here, and at which requests are signed
)

func secretOf(user string) string { return "secret of " + user }

func configOf(room int, clock int) api.Config {
	c := api.Config{Room: room, Clock: clock}
	for _, name := range []string{"al", "bo", "cy"} {
		c.Users = append(c.Users, api.User{Name: name, Secret: secretOf(name)})
	}
	return c
}

func newStore(t *testing.T, room int) *larder.Store {
	t.Helper()
	s, errno := larder.New(configOf(room, noon))
	if s == nil || errno != api.OK {
		t.Fatalf("New with room %d = %v, %d", room, s, errno)
	}
	return s
}

func openStore(t *testing.T, room int, log string) *larder.Store {
	t.Helper()
	s, _, errno := larder.Open(configOf(room, noon), log)
	if s == nil || errno != api.OK {
		t.Fatalf("Open of %d bytes with room %d = %v, %d", len(log), room, s, errno)
	}
	return s
}

// unsigned writes a request with the header host, and length if there is a body.
func unsigned(method, target, headers, body string) string {
	if body != "" {
		headers += "length: " + strconv.Itoa(len(body)) + "\n"
	}
	return method + " " + target + "\nhost: here\n" + headers + "\n" + body
}

// listOf lists the headers of unsigned.
func listOf(body string) string {
	if body != "" {
		return "host;length"
	}
	return "host"
}

func signatureOf(user string, second int, text, list string) string {
	canon, _ := larder.Canon(text, list)
	return signature(secretOf(user), second, canon)
}

func byHeader(user string, second int, method, target, body string) string {
	proof := signatureOf(user, second, unsigned(method, target, "", body), listOf(body))
	return unsigned(method, target, "auth: L1 "+user+" "+strconv.Itoa(second)+" "+listOf(body)+" "+proof+"\n", body)
}

func byQuery(user string, second, length int, method, target, body string) string {
	sign := "?"
	if strings.Contains(target, "?") {
		sign = "&"
	}
	target += sign + "x-user=" + user + "&x-time=" + strconv.Itoa(second) + "&x-for=" + strconv.Itoa(length) + "&x-list=" + larder.Encode(listOf(body), false)
	proof := signatureOf(user, second, unsigned(method, target, "", body), listOf(body))
	return unsigned(method, target+"&x-sig="+proof, "", body)
}

func wantDo(t *testing.T, s *larder.Store, text, want string) {
	t.Helper()
	if got := s.Do(text); got != want {
		t.Errorf("Do(%.300q) = %q, want %q", text, got, want)
	}
}

// step is a request that a user signs, and the response to it.
type step struct {
	user, method, target, body, want string
}

// wantSteps does steps one after the other, signed by header and by query in turn.
func wantSteps(t *testing.T, s *larder.Store, steps ...step) {
	t.Helper()
	for i, step := range steps {
		text := byHeader(step.user, s.Clock(), step.method, step.target, step.body)
		if i%2 == 1 {
			text = byQuery(step.user, s.Clock(), 1, step.method, step.target, step.body)
		}
		if got := s.Do(text); got != step.want {
			t.Errorf("step %d: %s: %s %s %.40q: %q, want %q", i, step.user, step.method, step.target, step.body, got, step.want)
		}
	}
}

func versioned(number int) string {
	return "200 OK\nversion: " + strconv.Itoa(number) + "\n\n"
}

func told(number int, body string) string {
	return "200 OK\nversion: " + strconv.Itoa(number) + "\nlength: " + strconv.Itoa(len(body)) + "\n\n" + body
}

func toldPolicy(policy string) string {
	return "200 OK\nlength: " + strconv.Itoa(len(policy)) + "\n\n" + policy
}

func listed(more bool, lines ...string) string {
	body := ""
	for _, line := range lines {
		body += line + "\n"
	}
	return "200 OK\nlength: " + strconv.Itoa(len(body)) + "\nmore: " + strconv.FormatBool(more) + "\n\n" + body
}

func wantConfig(t *testing.T, c api.Config, want api.Errno) {
	t.Helper()
	s, errno := larder.New(c)
	if errno != want || (s == nil) != (want != api.OK) {
		t.Errorf("New(%.200v) = %v, %d, want %d", c, s, errno, want)
	}
	for _, log := range []string{"", "no frame"} {
		s, size, errno := larder.Open(c, log)
		if errno != want || size != 0 || (s == nil) != (want != api.OK) {
			t.Errorf("Open(%.200v, %q) = %v, %d, %d, want %d", c, log, s, size, errno, want)
		}
	}
}

func withUsers(users ...api.User) api.Config { return api.Config{Users: users, Room: 200} }

func TestP8RoomAndClock(t *testing.T) {
	for room, want := range map[int]api.Errno{
		200: api.OK, 201: api.OK, 20000: api.OK, 199: api.ErrConfig, 20001: api.ErrConfig, 0: api.ErrConfig, -200: api.ErrConfig, math.MaxInt: api.ErrConfig, math.MinInt: api.ErrConfig,
	} {
		wantConfig(t, configOf(room, 0), want)
	}
	for clock, want := range map[int]api.Errno{
		0: api.OK, 1: api.OK, 1000000000000: api.OK, -1: api.ErrConfig, 1000000000001: api.ErrConfig, math.MaxInt: api.ErrConfig, math.MinInt: api.ErrConfig,
	} {
		wantConfig(t, configOf(200, clock), want)
	}
}

func TestP8Users(t *testing.T) {
	var users []api.User
	for i := range 9 {
		want := api.OK
		if i < 1 || i > 6 {
			want = api.ErrConfig
		}
		wantConfig(t, withUsers(users...), want)
		users = append(users, api.User{Name: strconv.Itoa(i), Secret: "the same"})
	}
	wantConfig(t, withUsers(make([]api.User, 1000000)...), api.ErrConfig)
	for name, want := range map[string]api.Errno{
		"a": api.OK, "z": api.OK, "0": api.OK, "9": api.OK, "abcdefghijkl": api.OK,
		"": api.ErrConfig, "A": api.ErrConfig, "a-b": api.ErrConfig, "a b": api.ErrConfig, "*": api.ErrConfig, "a\n": api.ErrConfig, "\x00": api.ErrConfig, "ä": api.ErrConfig, "abcdefghijklm": api.ErrConfig, strings.Repeat("a", 3000000): api.ErrConfig,
	} {
		wantConfig(t, withUsers(api.User{Name: name, Secret: "s"}), want)
		wantConfig(t, withUsers(api.User{Name: "other", Secret: "s"}, api.User{Name: name, Secret: "s"}), want)
	}
	for secret, want := range map[string]api.Errno{
		"s": api.OK, "\x00": api.OK, " ": api.OK, "\xff\n": api.OK, strings.Repeat("s", 40): api.OK,
		"": api.ErrConfig, strings.Repeat("s", 41): api.ErrConfig, strings.Repeat("s", 3000000): api.ErrConfig,
	} {
		wantConfig(t, withUsers(api.User{Name: "al", Secret: secret}), want)
		wantConfig(t, withUsers(api.User{Name: "al", Secret: secret}, api.User{Name: "bo", Secret: "s"}), want)
	}
	al, bo := api.User{Name: "al", Secret: "s"}, api.User{Name: "bo", Secret: "s"}
	wantConfig(t, withUsers(al, bo), api.OK)
	wantConfig(t, withUsers(al, bo, al), api.ErrConfig)
	wantConfig(t, withUsers(bo, api.User{Name: "al", Secret: "t"}, al), api.ErrConfig)
}

func TestP8ANewStoreIsEmpty(t *testing.T) {
	s := newStore(t, 200)
	if s.Log() != "" || s.Clock() != noon {
		t.Errorf("a new store has the log %q, the second %d", s.Log(), s.Clock())
	}
	wantSteps(t, s, step{"al", "GET", "/box", "", none}, step{"al", "GET", "/box/k", "", none}, step{"al", "GET", "/box?policy", "", none})
}

func wantTick(t *testing.T, s *larder.Store, seconds int, want api.Errno, clock int) {
	t.Helper()
	if errno := s.Tick(seconds); errno != want || s.Clock() != clock {
		t.Errorf("Tick(%d) = %d, the clock at %d, want %d, %d", seconds, errno, s.Clock(), want, clock)
	}
}

func TestP8TheClockGoesOn(t *testing.T) {
	for _, begin := range []int{0, 1, 999999999990, 1000000000000} {
		s, _ := larder.New(configOf(200, begin))
		left := api.MaxClock - begin
		for _, seconds := range []int{-1, math.MinInt, -api.MaxClock, left + 1, math.MaxInt, math.MaxInt - begin, math.MaxInt - begin + 1} {
			wantTick(t, s, seconds, api.ErrNumber, begin)
		}
		wantTick(t, s, 0, api.OK, begin)
		if left > 1 {
			wantTick(t, s, 1, api.OK, begin+1)
			wantTick(t, s, left-2, api.OK, api.MaxClock-1)
			wantTick(t, s, 2, api.ErrNumber, api.MaxClock-1)
			wantTick(t, s, 1, api.OK, api.MaxClock)
		}
		wantTick(t, s, 0, api.OK, max(begin, s.Clock()))
		if s.Log() != "" {
			t.Errorf("the clock went on, and the log is %q", s.Log())
		}
	}
}

// The clock is not in the log: an opened store begins at the configuration's second.
func TestP8TheClockBeginsWhereItIsTold(t *testing.T) {
	s := newStore(t, 200)
	s.Tick(77)
	wantSteps(t, s, step{"al", "PUT", "/box", "", done})
	if again := openStore(t, 200, s.Log()); again.Clock() != noon {
		t.Errorf("opened again, the clock stands at %d", again.Clock())
	}
}

package vault

import (
	"fmt"
	"math"
	"slices"
	"strings"
	"testing"

	"vault/api"
)

const (
	tagA = `"af63dc4c8601ec8c"` // of a
	tag0 = `"cbf29ce484222325"` // of nothing
)

// crlfs puts CRLF for each |.
func crlfs(text string) string { return strings.ReplaceAll(text, "|", "\r\n") }

func newStore(t testing.TB, stripes int) *Store {
	t.Helper()
	s, errno := New(stripes)
	if s == nil || errno != api.OK {
		t.Fatalf("P6: New(%d) = %v, %d", stripes, s, errno)
	}
	return s
}

// want asks with CRLF for each |, and is answered so.
func want(t testing.TB, s *Store, request, answer string) {
	t.Helper()
	if got := s.Do(crlfs(request)); got != crlfs(answer) {
		t.Errorf("Do(%.80q) = %.300q, want %.300q", crlfs(request), got, crlfs(answer))
	}
}

func tick(t testing.TB, s *Store, seconds int) {
	t.Helper()
	if errno := s.Tick(seconds); errno != api.OK {
		t.Fatalf("P6: Tick(%d) = %d at %d", seconds, errno, s.Clock())
	}
}

// state is all that a store keeps, whatever the number of its stripes.
func state(s *Store) string {
	var lines []string
	for i := range s.stripes {
		for _, e := range s.stripes[i].entries {
			lines = append(lines, fmt.Sprintf("%q %d %+v", e.key, e.last, e.versions))
		}
	}
	slices.Sort(lines)
	return fmt.Sprintf("time %d, %d keys, journal %q\n%s", s.common.time, s.common.keys, s.common.journal, strings.Join(lines, "\n"))
}

func TestNew(t *testing.T) {
	for _, stripes := range []int{0, -1, api.MaxStripes + 1, math.MaxInt, math.MinInt} {
		if s, errno := New(stripes); s != nil || errno != api.ErrArg {
			t.Errorf("P6: New(%d) = %v, %d", stripes, s, errno)
		}
	}
	for stripes := 1; stripes <= api.MaxStripes; stripes++ {
		s := newStore(t, stripes)
		if s.Clock() != 0 {
			t.Errorf("P6: the time of New(%d) is %d", stripes, s.Clock())
		}
		want(t, s, "GET /||", "200||")
	}
}

func TestStoresAreApart(t *testing.T) {
	one, other := newStore(t, 2), newStore(t, 2)
	want(t, one, "PUT /k||a", "201|ETag: "+tagA+"|Version: 1||")
	tick(t, one, 5)
	want(t, other, "GET /k||", "404||")
	if other.Clock() != 0 {
		t.Errorf("P2: another store's time is %d", other.Clock())
	}
}

func TestTick(t *testing.T) {
	s := newStore(t, 3)
	for _, c := range []struct {
		seconds int
		errno   api.Errno
		time    int
	}{
		{-1, api.ErrArg, 0},
		{math.MinInt, api.ErrArg, 0},
		{math.MaxInt, api.ErrArg, 0},
		{api.MaxClock + 1, api.ErrArg, 0},
		{0, api.OK, 0},
		{1, api.OK, 1},
		{784111776, api.OK, 784111777},
		{api.MaxClock, api.ErrArg, 784111777},
		{api.MaxClock - 784111776, api.ErrArg, 784111777},
		{math.MaxInt - 784111776, api.ErrArg, 784111777},
		{math.MaxInt, api.ErrArg, 784111777},
		{-784111777, api.ErrArg, 784111777},
		{api.MaxClock - 784111777, api.OK, api.MaxClock},
		{0, api.OK, api.MaxClock},
		{1, api.ErrArg, api.MaxClock},
		{-1, api.ErrArg, api.MaxClock},
		{math.MaxInt, api.ErrArg, api.MaxClock},
		{math.MinInt, api.ErrArg, api.MaxClock},
	} {
		if errno := s.Tick(c.seconds); errno != c.errno || s.Clock() != c.time {
			t.Errorf("P6: Tick(%d) = %d, then the time is %d, want %d, %d", c.seconds, errno, s.Clock(), c.errno, c.time)
		}
	}
	want(t, s, "PUT /k||a", "201|ETag: "+tagA+"|Version: 1||")
	want(t, s, "HEAD /k||", "200|ETag: "+tagA+"|Last-Modified: Fri, 31 Dec 9999 23:59:59 GMT|Version: 1||")
	if whole := newStore(t, 1); whole.Tick(api.MaxClock) != api.OK || whole.Clock() != api.MaxClock {
		t.Errorf("P6: Tick(MaxClock) of a new store: the time is %d", whole.Clock())
	}
}

// TestExamples: the table in the document's section of examples.
func TestExamples(t *testing.T) {
	s := newStore(t, 2)
	want(t, s, "GET /k||", "404||")
	want(t, s, "PUT /k||a", "201|ETag: "+tagA+"|Version: 1||")
	want(t, s, "PUT /k|If-None-Match: *||b", "412||")
	want(t, s, `PUT /k|if-match: "x", `+tagA+"||", "200|ETag: "+tag0+"|Version: 2||")
	want(t, s, "GET /k|If-None-Match: W/"+tag0+"||", "304||")
	tick(t, s, 784111777)
	want(t, s, "DELETE /k||", "204|Version: 3||")
	want(t, s, "GET /k||", "404||")
	want(t, s, "HEAD /k?v=1||", "200|ETag: "+tagA+"|Last-Modified: Thu, 01 Jan 1970 00:00:00 GMT|Version: 1||")
	want(t, s, "GET /k?versions||", "200||3 784111777 gone\n2 0 "+tag0+"\n1 0 "+tagA+"\n")
	want(t, s, "DELETE /k?v=3||", "204|Version: 3||")
	want(t, s, "GET /||", "200||k "+tag0+"\n")
	want(t, s, "PUT /||", "405||")
	for _, request := range []string{"GET /k", "GET /k ||", "GET /k?v=0||", "GET /k||x"} {
		want(t, s, request, "400||")
	}
	want(t, s, "PUT /k||c", `200|ETag: "af63de4c8601eff2"|Version: 4||`)
}

// TestRefusedForms: what is told without asking the store changes nothing, whatever it would have done.
func TestRefusedForms(t *testing.T) {
	s := newStore(t, 4)
	want(t, s, "PUT /k||a", "201|ETag: "+tagA+"|Version: 1||")
	was := state(s)
	for _, c := range []struct{ request, answer string }{
		{"PUT /k||" + strings.Repeat("b", api.MaxBody+1), "413||"},
		{"PUT /k|X: " + strings.Repeat("y", api.MaxRequest) + "||b", "413||"},
		{"PUT /k|If-Match: *|if-match: *||b", "400||"},
		{"PUT /k|If-Match: x||b", "400||"},
		{"PUT /k|If-Modified-Since: x|If-Modified-Since: x||b", "400||"},
		{"DELETE /k||b", "400||"},
		{"DELETE /k?v=1||b", "400||"},
		{"DELETE /k?v=01||", "400||"},
		{"DELETE /k\n\n", "400||"},
		{"DELETE /k|", "400||"},
		{"DELETE /k?versions||", "405||"},
		{"DELETE /||", "405||"},
		{"DELETE /?after=a||", "405||"},
		{"PUT /k?v=1||", "405||"},
		{"PUT /k?v=2||", "405||"},
		{"PUT /k?versions||", "405||"},
		{"HEAD /k?versions||", "405||"},
	} {
		want(t, s, c.request, c.answer)
	}
	if now := state(s); now != was {
		t.Errorf("P8: after refusals the store is\n%s\nit was\n%s", now, was)
	}
}

// TestLimitsOfForms: what is as long as it may be is taken whole.
func TestLimitsOfForms(t *testing.T) {
	s := newStore(t, 8)
	key, body := strings.Repeat("K", api.MaxKey), strings.Repeat("\r\n", api.MaxBody/2)
	head := "PUT /" + key + "\r\nX: "
	request := head + strings.Repeat("x", api.MaxRequest-len(head)-len("\r\n\r\n")-len(body)) + "\r\n\r\n" + body
	if len(request) != api.MaxRequest {
		t.Fatalf("the request has %d bytes", len(request))
	}
	if a := s.Do(request); !strings.HasPrefix(a, "201\r\n") {
		t.Errorf("P8: a request of MaxRequest bytes: %q", a)
	}
	if a := s.Do("GET /" + key + "\r\n\r\n"); !strings.HasSuffix(a, "\r\nVersion: 1\r\n\r\n"+body) {
		t.Errorf("P9: a body of MaxBody bytes: %q", a)
	}
	want(t, s, "GET /"+key+"K||", "400||")
}

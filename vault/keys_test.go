package vault

import (
	"strconv"
	"strings"
	"testing"

	"vault/api"
	"vault/rules"
)

// The states of a key k, and what is told of it without conditions. In those where version 1 is there, it has the body a and the time 100.
var keyStates = []struct {
	name  string
	build []string // requests; each but the first comes 100 seconds after the one ahead
	told  map[string]int
}{
	{"not known", nil, map[string]int{
		"GET /k": 404, "HEAD /k": 404, "PUT /k": 201, "DELETE /k": 404,
		"GET /k?v=1": 404, "HEAD /k?v=1": 404, "DELETE /k?v=1": 404,
	}},
	{"current", []string{"PUT /k||a"}, map[string]int{
		"GET /k": 200, "HEAD /k": 200, "PUT /k": 200, "DELETE /k": 204,
		"GET /k?v=1": 200, "HEAD /k?v=1": 200, "DELETE /k?v=1": 204,
		"GET /k?v=2": 404, "HEAD /k?v=2": 404, "DELETE /k?v=2": 404,
		"GET /k?v=999999999": 404, "DELETE /k?v=999999999": 404,
	}},
	{"current again", []string{"PUT /k||a", "DELETE /k||", "DELETE /k?v=2||"}, map[string]int{
		"GET /k": 200, "HEAD /k": 200, "PUT /k": 200, "DELETE /k": 204,
		"GET /k?v=1": 200, "HEAD /k?v=1": 200, "DELETE /k?v=1": 204,
		"GET /k?v=2": 404, "HEAD /k?v=2": 404, "DELETE /k?v=2": 404,
	}},
	{"a mark", []string{"PUT /k||a", "DELETE /k||"}, map[string]int{
		"GET /k": 404, "HEAD /k": 404, "PUT /k": 201, "DELETE /k": 404,
		"GET /k?v=1": 200, "HEAD /k?v=1": 200, "DELETE /k?v=1": 204,
		"GET /k?v=2": 404, "HEAD /k?v=2": 404, "DELETE /k?v=2": 204,
	}},
	{"a mark alone", []string{"PUT /k||a", "DELETE /k||", "DELETE /k?v=1||"}, map[string]int{
		"GET /k": 404, "HEAD /k": 404, "PUT /k": 201, "DELETE /k": 404,
		"GET /k?v=1": 404, "HEAD /k?v=1": 404, "DELETE /k?v=1": 404,
		"GET /k?v=2": 404, "HEAD /k?v=2": 404, "DELETE /k?v=2": 204,
	}},
	{"all gone", []string{"PUT /k||a", "DELETE /k?v=1||"}, map[string]int{
		"GET /k": 404, "HEAD /k": 404, "PUT /k": 201, "DELETE /k": 404,
		"GET /k?v=1": 404, "HEAD /k?v=1": 404, "DELETE /k?v=1": 404,
	}},
}

// Conditions, and what they tell (0: nothing) to whoever reads or writes the body a of the time 100, and to whoever finds nothing.
var conditionCases = []struct {
	fields            string
	read, write, none int
}{
	{"", 0, 0, 0},
	{"If-Match: *|", 0, 0, 412},
	{"If-Match: " + tagA + "|", 0, 0, 412},
	{`If-Match: "x", W/"y" ,` + tagA + "|", 0, 0, 412},
	{"If-Match: W/" + tagA + "|", 412, 412, 412},
	{"If-Match: " + tag0 + "|", 412, 412, 412},
	{"If-Match: \"\"|", 412, 412, 412},
	{"If-None-Match: *|", 304, 412, 0},
	{"If-None-Match: " + tagA + "|", 304, 412, 0},
	{"If-None-Match: W/" + tagA + "|", 304, 412, 0},
	{"If-None-Match: " + tag0 + "|", 0, 0, 0},
	{"If-None-Match: \"\"|", 0, 0, 0},
	{"If-Modified-Since: @99|", 0, 0, 0},
	{"If-Modified-Since: @100|", 304, 0, 0},
	{"If-Modified-Since: @101|", 304, 0, 0},
	{"If-Modified-Since: 101|", 0, 0, 0},
	{"If-Unmodified-Since: @99|", 412, 412, 0},
	{"If-Unmodified-Since: @100|", 0, 0, 0},
	{"If-Unmodified-Since: @101|", 0, 0, 0},
	{"If-Unmodified-Since: 99|", 0, 0, 0},
	{"If-Match: " + tagA + "|If-Unmodified-Since: @99|", 0, 0, 412},
	{"If-Match: *|If-None-Match: *|", 304, 412, 412},
	{"If-None-Match: " + tag0 + "|If-Modified-Since: @101|", 0, 0, 0},
	{"If-Unmodified-Since: @99|If-None-Match: *|", 412, 412, 0},
	{"If-Unmodified-Since: @100|If-Modified-Since: @100|", 304, 0, 0},
}

// withDates puts the date of a time for @ and its digits.
func withDates(fields string) string {
	for _, sec := range []int{99, 100, 101} {
		fields = strings.ReplaceAll(fields, "@"+strconv.Itoa(sec), rules.Stamp(sec))
	}
	return fields
}

func buildState(t *testing.T, stripes int, build []string) *Store {
	t.Helper()
	s := newStore(t, stripes)
	tick(t, s, 100)
	for i, request := range build {
		if i > 0 {
			tick(t, s, 100)
		}
		if a := s.Do(crlfs(request)); !strings.HasPrefix(a, "20") {
			t.Fatalf("P9: Do(%q) = %q", request, a)
		}
	}
	return s
}

// thereFor tells whether a request finds the body a of the time 100.
func thereFor(told map[string]int, line string) bool {
	_, target, _ := strings.Cut(line, " ")
	return told["GET "+target] == 200
}

// TestConditionsOnStates: each method, with and without ?v=, with each condition, on each state of a key.
func TestConditionsOnStates(t *testing.T) {
	for _, k := range keyStates {
		for line, plain := range k.told {
			for _, c := range conditionCases {
				s := buildState(t, 3, k.build)
				was := state(s)
				writes := strings.HasPrefix(line, "PUT") || strings.HasPrefix(line, "DELETE")
				told := c.none
				if thereFor(k.told, line) && writes {
					told = c.write
				} else if thereFor(k.told, line) {
					told = c.read
				}
				if told == 0 {
					told = plain
				}
				answer := s.Do(crlfs(line + "|" + withDates(c.fields) + "|"))
				if !strings.HasPrefix(answer, strconv.Itoa(told)+"\r\n") {
					t.Errorf("P9: %s, %s, %s: %q, want %d", k.name, line, c.fields, answer, told)
				}
				if told >= 300 && answer != strconv.Itoa(told)+"\r\n\r\n" {
					t.Errorf("P9: %s, %s, %s: %q tells more than %d", k.name, line, c.fields, answer, told)
				}
				if changed := state(s) != was; changed != (writes && told < 300) {
					t.Errorf("P9: %s, %s, %s: %d, and the state changed: %v", k.name, line, c.fields, told, changed)
				}
			}
		}
	}
}

func TestGetAndHead(t *testing.T) {
	s := newStore(t, 2)
	want(t, s, "PUT /k||one\r\n", "201|ETag: \""+rules.Tag("one\r\n")+"\"|Version: 1||")
	tick(t, s, 60)
	want(t, s, "PUT /k||", "200|ETag: "+tag0+"|Version: 2||")
	first := "200|ETag: \"" + rules.Tag("one\r\n") + "\"|Last-Modified: Thu, 01 Jan 1970 00:00:00 GMT|Version: 1||"
	second := "200|ETag: " + tag0 + "|Last-Modified: Thu, 01 Jan 1970 00:01:00 GMT|Version: 2||"
	tick(t, s, 60)
	want(t, s, "GET /k||", second)
	want(t, s, "HEAD /k||", second)
	want(t, s, "GET /k?v=2||", second)
	want(t, s, "GET /k?v=1||", first+"one\r\n")
	want(t, s, "HEAD /k?v=1||", first)
	want(t, s, "DELETE /k?v=2||", "204|Version: 2||")
	want(t, s, "GET /k||", first+"one\r\n")
	want(t, s, "GET /K||", "404||")
}

func TestPutAndDelete(t *testing.T) {
	s := newStore(t, 7)
	want(t, s, "DELETE /k||", "404||")
	want(t, s, "PUT /k||a", "201|ETag: "+tagA+"|Version: 1||")
	want(t, s, "PUT /k||a", "200|ETag: "+tagA+"|Version: 2||")
	want(t, s, "DELETE /k||", "204|Version: 3||")
	want(t, s, "DELETE /k||", "404||")
	want(t, s, "PUT /k||", "201|ETag: "+tag0+"|Version: 4||")
	want(t, s, "DELETE /k?v=3||", "204|Version: 3||")
	want(t, s, "DELETE /k?v=3||", "404||")
	want(t, s, "DELETE /k?v=4||", "204|Version: 4||")
	want(t, s, "PUT /k||", "200|ETag: "+tag0+"|Version: 5||")
	want(t, s, "DELETE /k?v=5||", "204|Version: 5||")
	want(t, s, "DELETE /k?v=1||", "204|Version: 1||")
	want(t, s, "DELETE /k?v=2||", "204|Version: 2||")
	want(t, s, "GET /k||", "404||")
	want(t, s, "DELETE /k||", "404||")
	want(t, s, "GET /k?versions||", "404||")
	want(t, s, "PUT /k||a", "201|ETag: "+tagA+"|Version: 6||")
}

// TestLostWrite: who writes by what it read does not write over what came since.
func TestLostWrite(t *testing.T) {
	s := newStore(t, 1)
	want(t, s, "PUT /k||", "201|ETag: "+tag0+"|Version: 1||")
	want(t, s, "PUT /k|If-Match: "+tag0+"||a", "200|ETag: "+tagA+"|Version: 2||")
	want(t, s, "PUT /k|If-Match: "+tag0+"||b", "412||")
	want(t, s, "DELETE /k|If-Match: "+tag0+"||", "412||")
	want(t, s, "GET /k|If-Match: "+tag0+"||", "412||")
	want(t, s, "GET /k?v=1|If-Match: "+tag0+"||", "200|ETag: "+tag0+"|Last-Modified: Thu, 01 Jan 1970 00:00:00 GMT|Version: 1||")
}

func fillKeys(t *testing.T, s *Store, count int) {
	t.Helper()
	for i := range count {
		want(t, s, "PUT /k"+strconv.Itoa(i)+"||", "201|ETag: "+tag0+"|Version: 1||")
	}
}

func TestNoRoomForKeys(t *testing.T) {
	for stripes := 1; stripes <= api.MaxStripes; stripes++ {
		s := newStore(t, stripes)
		want(t, s, "PUT /unmade|If-Match: *||", "412||")
		want(t, s, "DELETE /unmade||", "404||")
		fillKeys(t, s, api.MaxKeys)
		was := state(s)
		want(t, s, "PUT /other||", "507||")
		want(t, s, "PUT /unmade|If-None-Match: *||", "507||")
		want(t, s, "PUT /other|If-Match: *||", "412||")
		want(t, s, "DELETE /other||", "404||")
		if state(s) != was {
			t.Errorf("P9: NoRoom changed the store: %s", state(s))
		}
		want(t, s, "PUT /k0||a", "200|ETag: "+tagA+"|Version: 2||")
		want(t, s, "DELETE /k1||", "204|Version: 2||")
		want(t, s, "PUT /other||", "507||")
		want(t, s, "DELETE /k1?v=1||", "204|Version: 1||")
		want(t, s, "DELETE /k1?v=2||", "204|Version: 2||")
		want(t, s, "PUT /other||", "507||")
		want(t, s, "PUT /k1||", "201|ETag: "+tag0+"|Version: 3||")
	}
}

func TestNoRoomForVersions(t *testing.T) {
	s := newStore(t, 2)
	for number := 1; number < api.MaxVersions; number++ {
		if a := s.Do("PUT /k\r\n\r\na"); !strings.HasSuffix(a, "\r\nVersion: "+strconv.Itoa(number)+"\r\n\r\n") {
			t.Fatalf("P9: version %d: %q", number, a)
		}
	}
	want(t, s, "DELETE /k||", "204|Version: 20||")
	was := state(s)
	want(t, s, "PUT /k||", "507||")
	want(t, s, "PUT /k|If-None-Match: *||", "507||")
	want(t, s, "PUT /k|If-Match: *||", "412||")
	want(t, s, "DELETE /k||", "404||")
	want(t, s, "DELETE /k?v=21||", "404||")
	if state(s) != was {
		t.Errorf("P9: NoRoom changed the store: %s", state(s))
	}
	want(t, s, "DELETE /k?v=20||", "204|Version: 20||")
	want(t, s, "PUT /k||", "200|ETag: "+tag0+"|Version: 21||")
	want(t, s, "DELETE /k||", "507||")
	want(t, s, "DELETE /k|If-Match: "+tagA+"||", "412||")
	want(t, s, "PUT /k||", "507||")
	want(t, s, "DELETE /k?v=1||", "204|Version: 1||")
	want(t, s, "DELETE /k||", "204|Version: 22||")
	want(t, s, "PUT /other||a", "201|ETag: "+tagA+"|Version: 1||")
}

// TestNumbersGrow: a key that is written and emptied over and over is given ever greater numbers.
func TestNumbersGrow(t *testing.T) {
	s := newStore(t, 5)
	for number := 1; number <= 1200; number++ {
		n := strconv.Itoa(number)
		want(t, s, "PUT /k||a", "201|ETag: "+tagA+"|Version: "+n+"||")
		want(t, s, "DELETE /k?v="+n+"||", "204|Version: "+n+"||")
	}
	want(t, s, "PUT /k||a", "201|ETag: "+tagA+"|Version: 1201||")
	want(t, s, "GET /k?versions||", "200||1201 0 "+tagA+"\n")
}

package vault

import (
	"fmt"
	"math/rand/v2"
	"slices"
	"strings"
	"testing"

	"vault/api"
)

func TestVersionsOfAKey(t *testing.T) {
	s := newStore(t, 2)
	want(t, s, "GET /k?versions||", "404||")
	want(t, s, "PUT /k||a", "201|ETag: "+tagA+"|Version: 1||")
	want(t, s, "GET /k?versions||", "200||1 0 "+tagA+"\n")
	tick(t, s, 7)
	want(t, s, "DELETE /k||", "204|Version: 2||")
	tick(t, s, api.MaxClock-7)
	for number := 3; number <= 10; number++ {
		s.Do("PUT /k\r\n\r\n")
	}
	for number := 4; number <= 9; number++ {
		want(t, s, fmt.Sprintf("DELETE /k?v=%d||", number), fmt.Sprintf("204|Version: %d||", number))
	}
	want(t, s, "GET /k?versions||", "200||10 253402300799 "+tag0+"\n3 253402300799 "+tag0+"\n2 7 gone\n1 0 "+tagA+"\n")
	want(t, s, "GET /k?versions|If-Match: \"x\"||", "200||10 253402300799 "+tag0+"\n3 253402300799 "+tag0+"\n2 7 gone\n1 0 "+tagA+"\n")
	want(t, s, "GET /k?versions|If-Match: x||", "400||")
	for _, number := range []int{10, 3, 1} {
		want(t, s, fmt.Sprintf("DELETE /k?v=%d||", number), fmt.Sprintf("204|Version: %d||", number))
	}
	want(t, s, "GET /k?versions|If-None-Match: *||", "200||2 7 gone\n")
	want(t, s, "DELETE /k?v=2||", "204|Version: 2||")
	want(t, s, "GET /k?versions||", "404||")
}

// lines are those that a list has for keys with an empty body.
func lines(keys []string) string {
	var out strings.Builder
	for _, key := range keys {
		out.WriteString(key + " " + tag0 + "\n")
	}
	return out.String()
}

// putAll puts keys with an empty body, in any order.
func putAll(t *testing.T, s *Store, keys []string) {
	t.Helper()
	draw := rand.New(rand.NewPCG(1, uint64(len(keys))))
	for _, i := range draw.Perm(len(keys)) {
		want(t, s, "PUT /"+keys[i]+"||", "201|ETag: "+tag0+"|Version: 1||")
	}
}

// behind are the keys that stand behind one.
func behind(keys []string, after string) []string {
	var out []string
	for _, key := range keys {
		if key > after {
			out = append(out, key)
		}
	}
	return out
}

func TestOrderOfKeys(t *testing.T) {
	// As Go compares strings; each of the kinds of bytes ahead of the next.
	keys := []string{"-", ".", "0", "00", "0a", "9", "A", "Z", "Za", "_", "a", "a-", "a.", "a0", "aA", "a_", "aa", "aaa", "ab", "b", "z"}
	for stripes := 1; stripes <= api.MaxStripes; stripes++ {
		s := newStore(t, stripes)
		want(t, s, "GET /?after=a||", "200||")
		putAll(t, s, keys)
		want(t, s, "GET /||", "200||"+lines(keys))
		for _, key := range keys {
			for _, after := range []string{key, key + "-", key + "z"} {
				want(t, s, "GET /?after="+after+"||", "200||"+lines(behind(keys, after)))
			}
		}
	}
}

func manyKeys(count int) []string {
	var keys []string
	for i := range count {
		keys = append(keys, fmt.Sprintf("key%02d", i))
	}
	return keys
}

func TestMoreKeys(t *testing.T) {
	for stripes := 1; stripes <= api.MaxStripes; stripes++ {
		for _, count := range []int{api.MaxList - 1, api.MaxList} {
			s, keys := newStore(t, stripes), manyKeys(count)
			putAll(t, s, keys)
			want(t, s, "GET /||", "200||"+lines(keys))
		}
		s, keys := newStore(t, stripes), manyKeys(api.MaxKeys)
		putAll(t, s, keys)
		want(t, s, "GET /||", "200|More: key49||"+lines(keys[:50]))
		want(t, s, "GET /?after=a||", "200|More: key49||"+lines(keys[:50]))
		want(t, s, "GET /?after=key08||", "200|More: key58||"+lines(keys[9:59]))
		want(t, s, "GET /?after=key09||", "200||"+lines(keys[10:]))
		want(t, s, "GET /?after=key090||", "200||"+lines(keys[10:]))
		want(t, s, "GET /?after=key49||", "200||"+lines(keys[50:]))
		want(t, s, "GET /?after=key58||", "200||"+lines(keys[59:]))
		want(t, s, "GET /?after=key59||", "200||")
		want(t, s, "GET /?after=z||", "200||")
	}
}

// TestKeysWithoutCurrent: keys that are known, but have nothing current, are neither listed nor counted.
func TestKeysWithoutCurrent(t *testing.T) {
	for stripes := 1; stripes <= api.MaxStripes; stripes++ {
		s, keys := newStore(t, stripes), manyKeys(api.MaxList+2)
		putAll(t, s, keys)
		want(t, s, "DELETE /key51||", "204|Version: 2||")
		want(t, s, "GET /||", "200|More: key49||"+lines(keys[:50]))
		want(t, s, "DELETE /key50?v=1||", "204|Version: 1||")
		want(t, s, "GET /||", "200||"+lines(keys[:50]))
		want(t, s, "DELETE /key07||", "204|Version: 2||")
		rest := append(slices.Clone(keys[:7]), keys[8:50]...)
		want(t, s, "GET /||", "200||"+lines(rest))
		want(t, s, "GET /?after=key07||", "200||"+lines(keys[8:50]))
		want(t, s, "DELETE /key07?v=1||", "204|Version: 1||")
		want(t, s, "GET /?after=key06||", "200||"+lines(keys[8:50]))
		want(t, s, "DELETE /key51?v=2||", "204|Version: 2||")
		want(t, s, "GET /||", "200||"+lines(append(rest, "key51")))
		want(t, s, "PUT /key07||", "201|ETag: "+tag0+"|Version: 3||")
		want(t, s, "GET /||", "200|More: key49||"+lines(keys[:50]))
	}
}

func TestListsTellTheCurrentTag(t *testing.T) {
	s := newStore(t, 2)
	want(t, s, "PUT /b||", "201|ETag: "+tag0+"|Version: 1||")
	want(t, s, "PUT /a||", "201|ETag: "+tag0+"|Version: 1||")
	want(t, s, "PUT /b||a", "200|ETag: "+tagA+"|Version: 2||")
	want(t, s, "GET /||", "200||a "+tag0+"\nb "+tagA+"\n")
	want(t, s, "DELETE /b?v=2||", "204|Version: 2||")
	want(t, s, "GET /||", "200||a "+tag0+"\nb "+tag0+"\n")
}

// TestListsAskNoConditions: they are not weighed, but must have their form.
func TestListsAskNoConditions(t *testing.T) {
	s := newStore(t, 4)
	want(t, s, "PUT /k||", "201|ETag: "+tag0+"|Version: 1||")
	for _, fields := range []string{"If-Match: \"x\"|", "If-None-Match: *|", "If-None-Match: " + tag0 + "|", "If-Modified-Since: Fri, 31 Dec 9999 23:59:59 GMT|", "If-Unmodified-Since: Thu, 01 Jan 1970 00:00:00 GMT|", "If-Modified-Since: x|"} {
		want(t, s, "GET /|"+fields+"|", "200||"+lines([]string{"k"}))
		want(t, s, "GET /?after=a|"+fields+"|", "200||"+lines([]string{"k"}))
		want(t, s, "GET /?after=k|"+fields+"|", "200||")
	}
	want(t, s, "GET /|If-Match: x||", "400||")
	want(t, s, "GET /?after=k|If-None-Match:||", "400||")
}

package vault

import (
	"fmt"
	"strings"
	"sync"
	"testing"
	"unsafe"

	"vault/api"
	"vault/rules"
)

// together runs a function so many times at once.
func together(count int, run func(i int)) {
	var all sync.WaitGroup
	begin := make(chan struct{})
	for i := range count {
		all.Go(func() {
			<-begin
			run(i)
		})
	}
	close(begin)
	all.Wait()
}

// TestOneWriteWins: nothing comes between the weighing of conditions and the change.
func TestOneWriteWins(t *testing.T) {
	for round := range 200 {
		s := newStore(t, 1+round%api.MaxStripes)
		s.Do("PUT /k\r\n\r\na")
		answers := make([]string, 16)
		together(len(answers), func(i int) {
			answers[i] = s.Do(fmt.Sprintf("PUT /k\r\nIf-Match: %s\r\n\r\nbody %d", tagA, i))
		})
		won := 0
		for _, a := range answers {
			if strings.HasPrefix(a, "200\r\n") {
				won++
			} else if a != "412\r\n\r\n" {
				t.Fatalf("P9: %q", a)
			}
		}
		if won != 1 {
			t.Fatalf("P9: of writes by one tag %d were made", won)
		}
	}
}

// TestRoomTogether: keys that come at once in several stripes are not more than MaxKeys.
func TestRoomTogether(t *testing.T) {
	for round := range 50 {
		s := newStore(t, 1+round%api.MaxStripes)
		answers := make([]string, 2*api.MaxKeys)
		together(len(answers), func(i int) {
			answers[i] = s.Do(fmt.Sprintf("PUT /key%d\r\n\r\n", i))
		})
		made := 0
		for i, a := range answers {
			if strings.HasPrefix(a, "201\r\n") {
				made++
				want(t, s, fmt.Sprintf("PUT /key%d||", i), "200|ETag: "+tag0+"|Version: 2||")
			} else {
				want(t, s, fmt.Sprintf("PUT /key%d||", i), "507||")
			}
		}
		if made != api.MaxKeys {
			t.Fatalf("P9: %d keys are known", made)
		}
	}
}

// TestVersionsTogether: no number is given twice, and no key has more than MaxVersions.
func TestVersionsTogether(t *testing.T) {
	for round := range 50 {
		s := newStore(t, 1+round%api.MaxStripes)
		answers := make([]string, 2*api.MaxVersions)
		together(len(answers), func(i int) { answers[i] = s.Do("PUT /k\r\n\r\n") })
		times := map[string]int{}
		for _, a := range answers {
			times[a]++
		}
		if len(times) != api.MaxVersions+1 || times["507\r\n\r\n"] != api.MaxVersions {
			t.Fatalf("P9: the answers %v", times)
		}
	}
}

// listedNumbers tells which of the bodies "0", "1" and so on the keys a and b have in a list; -1 without one.
func listedNumbers(list string) (a, b int) {
	a, b = -1, -1
	for n := range api.MaxVersions {
		tag := rules.Tag(fmt.Sprint(n))
		if strings.Contains(list, "a \""+tag) {
			a = n
		}
		if strings.Contains(list, "b \""+tag) {
			b = n
		}
	}
	return a, b
}

// TestListOfOneMoment: a writes ahead of b, so no list has b further on than a, or by more than one behind it.
func TestListOfOneMoment(t *testing.T) {
	for round := range 200 {
		s := newStore(t, 1+round%api.MaxStripes)
		lists := make([][]string, 4)
		together(1+len(lists), func(i int) {
			for n := range api.MaxVersions {
				if i == 0 {
					s.Do(fmt.Sprintf("PUT /a\r\n\r\n%d", n))
					s.Do(fmt.Sprintf("PUT /b\r\n\r\n%d", n))
					continue
				}
				lists[i-1] = append(lists[i-1], s.Do("GET /\r\n\r\n"))
			}
		})
		for _, seen := range lists {
			for _, list := range seen {
				if a, b := listedNumbers(list); b > a || b < a-1 {
					t.Fatalf("P10: a list of no one moment: a has %d, b has %d: %q", a, b, list)
				}
			}
		}
	}
}

// TestTicksTogether: no second is lost, and none goes by beyond MaxClock.
func TestTicksTogether(t *testing.T) {
	s := newStore(t, 4)
	together(50, func(i int) {
		for range 100 {
			s.Tick(1)
			s.Clock()
			s.Do("PUT /k\r\n\r\n")
		}
	})
	if s.Clock() != 5000 {
		t.Errorf("P6: after 5000 seconds the time is %d", s.Clock())
	}
	refused := make([]api.Errno, 40)
	together(len(refused), func(i int) { refused[i] = s.Tick(api.MaxClock / 30) })
	count := 0
	for _, errno := range refused {
		count += int(errno)
	}
	if count != 11 || s.Clock() > api.MaxClock {
		t.Errorf("P6: %d ticks were refused, the time is %d", count, s.Clock())
	}
}

// TestAllAtOnce: whatever is asked at once, every call ends, and the lists agree with the keys.
func TestAllAtOnce(t *testing.T) {
	for stripes := 1; stripes <= api.MaxStripes; stripes++ {
		s := newStore(t, stripes)
		together(16, func(i int) {
			key := fmt.Sprintf("/k%d", i%5)
			for range 50 {
				for _, request := range []string{"PUT " + key, "GET " + key, "GET /", "DELETE " + key, "GET " + key + "?versions", "GET /?after=k1", "DELETE " + key + "?v=3", "PUT /", "GET"} {
					s.Do(request + "\r\n\r\n")
				}
				s.Tick(1)
			}
		})
		for k := range 5 {
			key := fmt.Sprintf("k%d", k)
			listed := strings.Contains(s.Do("GET /\r\n\r\n"), key+" ")
			if there := strings.HasPrefix(s.Do("HEAD /"+key+"\r\n\r\n"), "200"); there != listed {
				t.Errorf("P10: %s is there: %v, is listed: %v", key, there, listed)
			}
		}
	}
}

// TestBatchesTogether: a batch has the store to itself, so that whatever is asked at once sees all of it or nothing, and no time goes by in it.
func TestBatchesTogether(t *testing.T) {
	for round := range 100 {
		s := newStore(t, 1+round%api.MaxStripes)
		keys := manyKeys(20)
		var first []string
		for _, key := range keys {
			first = append(first, "PUT /"+key+"\r\n\r\nfirst")
		}
		batch(t, s, first, api.MaxWorkers)
		together(8, func(i int) {
			for n := range 4 {
				s.Tick(1)
				if i%2 == 0 {
					var writes []string
					for _, key := range keys {
						writes = append(writes, fmt.Sprintf("PUT /%s\r\n\r\n%d of %d", key, n, i))
					}
					batch(t, s, append(writes, "GET /\r\n\r\n"), 1+i)
				}
				list := s.Do("GET /\r\n\r\n")
				_, tag, _ := strings.Cut(list, "key00 ")
				tag, _, _ = strings.Cut(tag, "\n")
				if strings.Count(list, tag+"\n") != len(keys) {
					t.Errorf("P11: a list that has seen a part of a batch: %q", list)
				}
			}
		})
		versions := s.Do("GET /" + keys[0] + "?versions\r\n\r\n")
		for _, key := range keys {
			if other := s.Do("GET /" + key + "?versions\r\n\r\n"); other != versions {
				t.Errorf("P11: %s has the versions %q, %s has %q", key, other, keys[0], versions)
			}
		}
	}
}

// TestBatchesOfOneWriter: of PUTs by one tag in batches that are asked at once, one is made (P14).
func TestBatchesOfOneWriter(t *testing.T) {
	for round := range 100 {
		s := newStore(t, 1+round%api.MaxStripes)
		s.Do("PUT /k\r\n\r\na")
		told := make([][]string, 6)
		together(len(told), func(i int) {
			var requests []string
			for n := range 10 {
				requests = append(requests, fmt.Sprintf("PUT /k\r\nIf-Match: %s\r\n\r\n%d of %d", tagA, n, i))
			}
			told[i] = append(batch(t, s, requests, 1+i), s.Do(requests[0]))
		})
		count := map[string]int{}
		for _, answers := range told {
			for _, a := range answers {
				count[a[:3]]++
			}
		}
		if count["200"] != 1 || count["412"] != 65 {
			t.Errorf("P14: of writes by one tag %v", count)
		}
	}
}

// TestRequestIsNotKept overwrites the bytes of a request behind the store's back.
func TestRequestIsNotKept(t *testing.T) {
	s := newStore(t, 3)
	for _, request := range []string{"PUT /key||body", "PUT /key|If-Match: *||more"} {
		bytes := []byte(crlfs(request))
		s.Do(unsafe.String(&bytes[0], len(bytes)))
		for i := range bytes {
			bytes[i] = 'x'
		}
	}
	want(t, s, "GET /||", "200||key \""+rules.Tag("more")+"\"\n")
	want(t, s, "GET /key?v=1||", "200|ETag: \""+rules.Tag("body")+"\"|Last-Modified: Thu, 01 Jan 1970 00:00:00 GMT|Version: 1||body")
	want(t, s, "GET /key||", "200|ETag: \""+rules.Tag("more")+"\"|Last-Modified: Thu, 01 Jan 1970 00:00:00 GMT|Version: 2||more")
}

package vault

import (
	"fmt"
	"strings"
	"sync/atomic"
	"testing"

	"vault/api"
)

func wantLog(t testing.TB, s *Store, log string) {
	t.Helper()
	if got := s.Log(); got != log {
		t.Errorf("P12: with %d stripes the journal is\n%q, want\n%q", len(s.stripes), got, log)
	}
}

// journalOfAll has requests of all kinds, asked at the time 258, and the record of each that was done.
func journalOfAll() []struct{ request, record string } {
	full := strings.Repeat("b", api.MaxBody)
	long := strings.Repeat("Z", api.MaxKey)
	return []struct{ request, record string }{
		{"GET /k||", ""},
		{"PUT /k||a", record(1, 258, "k", 1, "a")},
		{"PUT /k|If-None-Match: *||b", ""},
		{"PUT /k|If-Match: \"x\"||b", ""},
		{"PUT /k|If-Match: " + tagA + "||", record(1, 258, "k", 2, "")},
		{"PUT /k||", record(1, 258, "k", 3, "")},
		{"GET /k||", ""},
		{"GET /k|If-None-Match: *||", ""},
		{"HEAD /k?v=1||", ""},
		{"GET /k?versions||", ""},
		{"GET /||", ""},
		{"PUT /" + long + "||" + full, record(1, 258, long, 1, full)},
		{"PUT /" + long + "||" + full + "b", ""},
		{"PUT /" + long + "Z||" + full, ""},
		{"PUT /k|X: " + strings.Repeat("y", api.MaxRequest) + "||b", ""},
		{"DELETE /k|If-Match: " + tagA + "||", ""},
		{"DELETE /k||", record(2, 258, "k", 4, "")},
		{"DELETE /k||", ""},
		{"DELETE /l||", ""},
		{"DELETE /l?v=1||", ""},
		{"DELETE /k?v=5||", ""},
		{"DELETE /k?v=2|If-Match: " + tagA + "||", ""},
		{"DELETE /k?v=2||", record(3, 258, "k", 2, "")},
		{"DELETE /k?v=2||", ""},
		{"DELETE /k?v=4||", record(3, 258, "k", 4, "")},
		{"PUT /k||\r\n\x00\xff", record(1, 258, "k", 5, "\r\n\x00\xff")},
		{"PUT /||", ""},
		{"DELETE /?after=k||", ""},
		{"x", ""},
		{"", ""},
		{"PUT /j|If-Match: *||", ""},
		{"PUT /j|if-unmodified-since: Thu, 01 Jan 1970 00:00:00 GMT||1", record(1, 258, "j", 1, "1")},
		{"DELETE /j|If-Unmodified-Since: Thu, 01 Jan 1970 00:04:17 GMT||", ""},
		{"DELETE /j|If-Unmodified-Since: Thu, 01 Jan 1970 00:04:18 GMT||", record(2, 258, "j", 2, "")},
	}
}

func TestLogBehindDo(t *testing.T) {
	for stripes := 1; stripes <= api.MaxStripes; stripes++ {
		s, log := newStore(t, stripes), ""
		wantLog(t, s, "")
		tick(t, s, 258)
		wantLog(t, s, "")
		for _, c := range journalOfAll() {
			s.Do(crlfs(c.request))
			log += c.record
			wantLog(t, s, log)
		}
		tick(t, s, 5)
		s.Tick(-1)
		s.Do("PUT /k\r\n\r\n")
		wantLog(t, s, log+record(1, 263, "k", 6, ""))
	}
}

func TestLogBehindBatch(t *testing.T) {
	eachSize(func(stripes, workers int) {
		s, log := newStore(t, stripes), ""
		tick(t, s, 258)
		var requests []string
		for _, c := range journalOfAll() {
			requests = append(requests, crlfs(c.request))
			log += c.record
		}
		batch(t, s, requests, workers)
		wantLog(t, s, log)
		s.Batch(requests, 0)
		s.Batch(make([]string, api.MaxBatch+1), workers)
		batch(t, s, nil, workers)
		wantLog(t, s, log)
		tick(t, s, 1)
		batch(t, s, []string{"PUT /z\r\n\r\n1", "PUT /a\r\n\r\n2", "GET /\r\n\r\n", "PUT /z\r\n\r\n3"}, workers)
		s.Do("PUT /y\r\n\r\n")
		wantLog(t, s, log+record(1, 259, "z", 1, "1")+record(1, 259, "a", 1, "2")+record(1, 259, "z", 2, "3")+record(1, 259, "y", 1, ""))
	})
}

// TestLogInOrderOfRequests: not in that of keys, of stripes or of workers.
func TestLogInOrderOfRequests(t *testing.T) {
	eachSize(func(stripes, workers int) {
		s, log := newStore(t, stripes), ""
		var requests []string
		for i := range api.MaxBatch {
			key, number := fmt.Sprintf("k%d", i*29%api.MaxBatch%50), 1
			if strings.Contains(log, key+"\x00") {
				number = 2
			}
			requests = append(requests, "PUT /"+key+"\r\n\r\n")
			log += record(1, 0, key, number, "")
		}
		batch(t, s, requests, workers)
		wantLog(t, s, log)
	})
}

// TestLogOfNoRoom: what finds no room has no record.
func TestLogOfNoRoom(t *testing.T) {
	eachSize(func(stripes, workers int) {
		s, log := newStore(t, stripes), ""
		for number := range api.MaxKeys - 1 {
			s.Do(fmt.Sprintf("PUT /k%d\r\n\r\n", number))
			log += record(1, 0, fmt.Sprintf("k%d", number), 1, "")
		}
		batch(t, s, []string{"PUT /x\r\nIf-Match: *\r\n\r\n", "PUT /y\r\n\r\n", "PUT /z\r\n\r\n", "PUT /y\r\n\r\na"}, workers)
		log += record(1, 0, "y", 1, "") + record(1, 0, "y", 2, "a")
		s.Do("PUT /x\r\n\r\n")
		wantLog(t, s, log)
		for number := 3; number <= api.MaxVersions+2; number++ {
			batch(t, s, []string{"PUT /y\r\n\r\n"}, workers)
			if number <= api.MaxVersions {
				log += record(1, 0, "y", number, "")
			}
		}
		s.Do("DELETE /y\r\n\r\n")
		wantLog(t, s, log)
		batch(t, s, []string{"DELETE /y?v=20\r\n\r\n", "DELETE /y\r\n\r\n", "DELETE /y\r\n\r\n"}, workers)
		wantLog(t, s, log+record(3, 0, "y", 20, "")+record(2, 0, "y", 21, ""))
	})
}

// TestLogStays: a journal that was told does not change with what is done later.
func TestLogStays(t *testing.T) {
	s := newStore(t, 2)
	var logs, copies []string
	for number := range 200 {
		s.Do(fmt.Sprintf("PUT /k%d\r\n\r\n%d", number%50, number))
		logs = append(logs, s.Log())
		copies = append(copies, strings.Clone(s.Log()))
	}
	for i := range logs {
		if logs[i] != copies[i] || !strings.HasPrefix(logs[len(logs)-1], logs[i]) {
			t.Errorf("P12: journal %d has become %q, was %q", i, logs[i], copies[i])
		}
	}
}

// TestLogTogether: whatever is asked at once, the journal can be followed to its end, and leads to the same store: no record stands behind one of a later time, nor ahead of what it builds on.
func TestLogTogether(t *testing.T) {
	for round := range 60 {
		s := newStore(t, 1+round%api.MaxStripes)
		together(12, func(i int) {
			for n := range 30 {
				key := fmt.Sprintf("/k%d", (i*7+n)%20)
				requests := []string{"PUT " + key, "PUT /new" + fmt.Sprint(i*30+n), "DELETE " + key, "PUT " + key, "DELETE " + key + "?v=" + fmt.Sprint(1+n%9), "PUT " + key, "GET /"}
				for q := range requests {
					requests[q] += "\r\n\r\n"
					s.Tick(1)
					s.Do(requests[q])
				}
				if i%3 == 0 {
					batch(t, s, requests, 1+n%api.MaxWorkers)
				}
				s.Log()
			}
		})
		found := open(t, s.Log(), 1+round%3, len(s.Log()))
		tick(t, found, s.Clock()-found.Clock())
		if now, want := state(found), state(s); now != want {
			t.Fatalf("P13: the store that was found is\n%s\nwant\n%s", now, want)
		}
	}
}

// TestLogOfWholeBatches: a journal that is asked for at once with batches has all of one or nothing.
func TestLogOfWholeBatches(t *testing.T) {
	var requests []string
	size, body := 0, strings.Repeat("b", api.MaxBody)
	for _, key := range manyKeys(api.MaxKeys) {
		requests = append(requests, "PUT /"+key+"\r\n\r\n"+body)
		size += len(record(1, 0, key, 1, body))
	}
	for round := range 20 {
		s := newStore(t, 1+round%api.MaxStripes)
		var ended atomic.Bool
		together(4, func(i int) {
			if i == 0 {
				for range api.MaxVersions {
					batch(t, s, requests, 1+round%api.MaxWorkers)
				}
				ended.Store(true)
			}
			for !ended.Load() {
				if log := s.Log(); len(log)%size != 0 {
					t.Errorf("P12: a journal of %d bytes has a part of a batch", len(log))
				}
			}
		})
		if log := s.Log(); len(log) != api.MaxVersions*size {
			t.Errorf("P12: the journal has %d bytes", len(log))
		}
	}
}

package vault

import (
	"fmt"
	"strings"
	"testing"

	"vault/api"
	"vault/rules"
)

// isDone tells whether an answer is that to something that was found or done.
func isDone(answer string) bool {
	return strings.HasPrefix(answer, "200\r\n") || strings.HasPrefix(answer, "201\r\n") || strings.HasPrefix(answer, "204\r\n")
}

// drawByTag draws requests with If-Match of the tag of a; those that write, write something else.
func drawByTag(d *drawer, count int) []string {
	var requests []string
	for i := range count {
		line := pick(d, "PUT /k", "PUT /k", "PUT /k", "GET /k", "HEAD /k", "GET /k?v=1", "PUT /l")
		body := ""
		if strings.HasPrefix(line, "PUT") {
			body = fmt.Sprint(i)
		}
		requests = append(requests, line+"\r\nIf-Match: "+tagA+"\r\n\r\n"+body)
	}
	return requests
}

// wantOneWriter: of the PUTs of k the first was done, and the others tell Failed.
func wantOneWriter(t *testing.T, s *Store, requests, answers []string) {
	t.Helper()
	log := record(1, 0, "k", 1, "a")
	for i, request := range requests {
		if !strings.HasPrefix(request, "PUT /k") {
			continue
		}
		_, body, _ := strings.Cut(request, "\r\n\r\n")
		want := "412||"
		if strings.Count(log, "k\x00") == 1 {
			want = "200|ETag: \"" + rules.Tag(body) + "\"|Version: 2||"
			log += record(1, 0, "k", 2, body)
		}
		if answers[i] != crlfs(want) {
			t.Errorf("P14: %q: %q, want %q", request, answers[i], want)
		}
	}
	wantLog(t, s, log)
}

func TestOneWriterByTag(t *testing.T) {
	for seed := range uint64(10) {
		requests := drawByTag(newDrawer(seed, 19), api.MaxBatch)
		alone := newStore(t, 1+int(seed)%api.MaxStripes)
		alone.Do("PUT /k\r\n\r\na")
		var answers []string
		for _, request := range requests {
			answers = append(answers, alone.Do(request))
		}
		wantOneWriter(t, alone, requests, answers)
		eachSize(func(stripes, workers int) {
			s := newStore(t, stripes)
			s.Do("PUT /k\r\n\r\na")
			wantOneWriter(t, s, requests, batch(t, s, requests, workers))
		})
	}
}

// TestOneWriterOfAFoundStore: the tag that was read ahead of a loss still stands for the same version behind it.
func TestOneWriterOfAFoundStore(t *testing.T) {
	eachSize(func(stripes, workers int) {
		requests := drawByTag(newDrawer(uint64(stripes), 20), api.MaxBatch)
		log := record(1, 0, "k", 1, "a")
		s := open(t, log+"\x00\x10\x01", stripes, len(log))
		wantOneWriter(t, s, requests, batch(t, s, requests, workers))
		found := open(t, s.Log(), workers, len(s.Log()))
		for _, a := range batch(t, found, requests, workers) {
			if strings.HasPrefix(a, "201") || strings.HasPrefix(a, "204") || strings.HasPrefix(a, "200\r\nETag: "+tagA+"\r\nVersion") {
				t.Errorf("P14: a write by a tag that is not current any more: %q", a)
			}
		}
		wantLog(t, found, s.Log())
	})
}

// TestRefusedChangesNothing: what was told anything but 200, 201 and 204 has left the store as it was, journal and all, in a batch as alone.
func TestRefusedChangesNothing(t *testing.T) {
	told := map[string]int{}
	for seed := range uint64(12) {
		d := newDrawer(seed, 21)
		s := newStore(t, 1+int(seed)%api.MaxStripes)
		if seed%3 == 0 {
			fillKeys(t, s, api.MaxKeys)
		}
		var refused []string
		for range 1200 {
			d.time = s.Clock()
			request, was := d.batchRequest(), state(s)
			if d.IntN(20) == 0 {
				tick(t, s, 1)
				was, refused = state(s), nil
			}
			answer := s.Do(request)
			told[answer[:3]]++
			if isDone(answer) {
				if state(s) != was {
					refused = nil
				}
				continue
			}
			refused = append(refused, request)
			refused = refused[max(0, len(refused)-api.MaxBatch):]
			for _, a := range batch(t, s, refused, 1+d.IntN(api.MaxWorkers)) {
				if isDone(a) {
					t.Fatalf("P11: in a batch of what was refused %q", a)
				}
			}
			if now := state(s); now != was {
				t.Fatalf("P14: behind %q, told %q, the store is\n%s\nit was\n%s", request, answer, now, was)
			}
		}
	}
	for _, code := range []int{api.Fine, api.Made, api.Done, api.Same, api.Bad, api.NotThere, api.NotFor, api.Failed, api.TooLong, api.NoRoom} {
		if told[fmt.Sprint(code)] == 0 {
			t.Errorf("%d was never told: %v", code, told)
		}
	}
}

// TestCutJournalOfBatches: of a batch's journal, too, what is left is of the first things that were done, in the order of the requests.
func TestCutJournalOfBatches(t *testing.T) {
	for seed := range uint64(12) {
		d := newDrawer(seed, 22)
		h := &history{store: newStore(t, 1)}
		h.note()
		s := newStore(t, 1+int(seed)%api.MaxStripes)
		for range 3 {
			var requests []string
			for range 30 {
				requests = append(requests, d.request())
				h.store.Do(requests[len(requests)-1])
				h.note()
			}
			batch(t, s, requests, 1+d.IntN(api.MaxWorkers))
			tick(t, s, 3)
			tick(t, h.store, 3)
		}
		log := s.Log()
		wantLog(t, s, h.store.Log())
		for end := range len(log) + 1 {
			count := h.whole(end)
			if now := state(open(t, log[:end], 1+end%api.MaxStripes, h.ends[count])); now != h.states[count] {
				t.Fatalf("P14: of %d bytes of %d the store is\n%s\nwant\n%s", end, len(log), now, h.states[count])
			}
		}
	}
}

package vault

import (
	"fmt"
	"math"
	"math/rand/v2"
	"runtime"
	"slices"
	"strings"
	"testing"
	"time"
	"unsafe"

	"vault/api"
	"vault/rules"
)

// batch asks a batch that is not refused.
func batch(t testing.TB, s *Store, requests []string, workers int) []string {
	t.Helper()
	answers, errno := s.Batch(requests, workers)
	if errno != api.OK || len(answers) != len(requests) {
		t.Fatalf("P11: Batch of %d by %d workers = %d answers, %d", len(requests), workers, len(answers), errno)
	}
	return answers
}

// eachSize runs a test with every number of stripes and of workers.
func eachSize(run func(stripes, workers int)) {
	for stripes := 1; stripes <= api.MaxStripes; stripes++ {
		for workers := 1; workers <= api.MaxWorkers; workers++ {
			run(stripes, workers)
		}
	}
}

// tellAll is all that a store tells of keys.
func tellAll(s *Store, keys []string) string {
	var out strings.Builder
	ask := func(line string) { fmt.Fprintf(&out, "%s: %q\n", line, s.Do(line+"\r\n\r\n")) }
	fmt.Fprintln(&out, s.Clock())
	ask("GET /")
	for _, key := range keys {
		ask("GET /?after=" + key)
		ask("GET /" + key)
		ask("GET /" + key + "?versions")
		for number := 1; number <= api.MaxVersions+5; number++ {
			ask(fmt.Sprintf("GET /%s?v=%d", key, number))
		}
	}
	return out.String()
}

func TestBatchRefused(t *testing.T) {
	for stripes := 1; stripes <= api.MaxStripes; stripes++ {
		s := newStore(t, stripes)
		s.Do("PUT /k\r\n\r\na")
		was := state(s)
		writes := []string{"PUT /a\r\n\r\n", "PUT /k\r\n\r\n", "DELETE /k?v=1\r\n\r\n"}
		tooMany := slices.Repeat([]string{"PUT /a\r\n\r\n"}, api.MaxBatch+1)
		for _, c := range []struct {
			requests []string
			workers  int
		}{
			{writes, 0}, {writes, -1}, {writes, api.MaxWorkers + 1}, {writes, math.MaxInt}, {writes, math.MinInt},
			{writes, math.MaxInt32 + 2}, {writes, math.MinInt + 1}, {nil, 0}, {nil, api.MaxWorkers + 1}, {[]string{}, -1},
			{tooMany, 1}, {tooMany, api.MaxWorkers}, {tooMany, 0}, {tooMany, math.MaxInt},
			{make([]string, 10000), 4},
		} {
			if answers, errno := s.Batch(c.requests, c.workers); answers != nil || errno != api.ErrArg {
				t.Errorf("P11: Batch of %d by %d workers = %q, %d", len(c.requests), c.workers, answers, errno)
			}
		}
		if now := state(s); now != was {
			t.Errorf("P1: after refusals the store is\n%s\nit was\n%s", now, was)
		}
	}
}

func TestBatchSizes(t *testing.T) {
	eachSize(func(stripes, workers int) {
		s := newStore(t, stripes)
		was := state(s)
		batch(t, s, nil, workers)
		batch(t, s, []string{}, workers)
		if now := state(s); now != was {
			t.Errorf("P11: after batches of nothing the store is %s", now)
		}
		if answers := batch(t, s, []string{"PUT /k\r\n\r\na"}, workers); answers[0] != crlfs("201|ETag: "+tagA+"|Version: 1||") {
			t.Errorf("P11: a batch of one: %q", answers)
		}
		if answers := batch(t, s, make([]string, api.MaxBatch), workers); strings.Join(answers, "") != strings.Repeat("400\r\n\r\n", api.MaxBatch) {
			t.Errorf("P11: a batch of empty requests: %q", answers)
		}
		answers := batch(t, s, slices.Repeat([]string{"PUT /k\r\n\r\na"}, api.MaxBatch), workers)
		for i, a := range answers {
			want := crlfs(fmt.Sprintf("200|ETag: %s|Version: %d||", tagA, i+2))
			if i+2 > api.MaxVersions {
				want = "507\r\n\r\n"
			}
			if a != want {
				t.Errorf("P11: answer %d is %q, want %q", i, a, want)
			}
		}
	})
}

// batchOfAll has requests of all kinds, and what is told to each.
var batchOfAll = []struct{ request, answer string }{
	{"GET /||", "200||"},
	{"GET /a||", "404||"},
	{"PUT /a||a", "201|ETag: " + tagA + "|Version: 1||"},
	{"PUT /b|If-Match: *||a", "412||"},
	{"PUT /c|If-None-Match: *||", "201|ETag: " + tag0 + "|Version: 1||"},
	{"GET /||", "200||a " + tagA + "\nc " + tag0 + "\n"},
	{"PUT /a|If-None-Match: *||b", "412||"},
	{"PUT /b||", "201|ETag: " + tag0 + "|Version: 1||"},
	{"GET /?after=a||", "200||b " + tag0 + "\nc " + tag0 + "\n"},
	{"PUT /a|if-match: " + tagA + "||", "200|ETag: " + tag0 + "|Version: 2||"},
	{"PUT /a|if-match: " + tagA + "||", "412||"},
	{"GET /a|If-None-Match: " + tag0 + "||", "304||"},
	{"GET /c|If-Modified-Since: Thu, 01 Jan 1970 00:00:05 GMT||", "304||"},
	{"PUT /c|If-Unmodified-Since: Thu, 01 Jan 1970 00:00:04 GMT||a", "412||"},
	{"GET /?after=c||", "200||"},
	{"x", "400||"},
	{"GET / ||", "400||"},
	{"GET /|If-Match: x||", "400||"},
	{"GET /||x", "400||"},
	{"PUT /||", "405||"},
	{"DELETE /?after=a||", "405||"},
	{"HEAD /a?versions||", "405||"},
	{"PUT /a||" + strings.Repeat("b", api.MaxBody+1), "413||"},
	{"PUT /a|X: " + strings.Repeat("y", api.MaxRequest) + "||b", "413||"},
	{"DELETE /d||", "404||"},
	{"DELETE /b||", "204|Version: 2||"},
	{"GET /||", "200||a " + tag0 + "\nc " + tag0 + "\n"},
	{"DELETE /b||", "404||"},
	{"GET /b?versions||", "200||2 5 gone\n1 5 " + tag0 + "\n"},
	{"DELETE /b?v=2||", "204|Version: 2||"},
	{"HEAD /b||", "200|ETag: " + tag0 + "|Last-Modified: Thu, 01 Jan 1970 00:00:05 GMT|Version: 1||"},
	{"DELETE /b?v=1||", "204|Version: 1||"},
	{"GET /b?versions||", "404||"},
	{"GET /a?v=1||", "200|ETag: " + tagA + "|Last-Modified: Thu, 01 Jan 1970 00:00:05 GMT|Version: 1||a"},
	{"PUT /b||a", "201|ETag: " + tagA + "|Version: 3||"},
	{"GET /||", "200||a " + tag0 + "\nb " + tagA + "\nc " + tag0 + "\n"},
	{"GET /||", "200||a " + tag0 + "\nb " + tagA + "\nc " + tag0 + "\n"},
	{"DELETE /a||", "204|Version: 3||"},
}

func TestBatchOfAllKinds(t *testing.T) {
	eachSize(func(stripes, workers int) {
		s := newStore(t, stripes)
		tick(t, s, 5)
		var requests []string
		for _, c := range batchOfAll {
			requests = append(requests, crlfs(c.request))
		}
		for i, a := range batch(t, s, requests, workers) {
			if want := crlfs(batchOfAll[i].answer); a != want {
				t.Errorf("P11: %d stripes, %d workers, %.60q: %q, want %q", stripes, workers, requests[i], a, want)
			}
		}
		want(t, s, "GET /||", "200||b "+tagA+"\nc "+tag0+"\n")
		want(t, s, "GET /a?versions||", "200||3 5 gone\n2 5 "+tag0+"\n1 5 "+tagA+"\n")
	})
}

// batchRequest is drawn: now and then one of those that are too long, or of all keys.
func (d *drawer) batchRequest() string {
	switch d.IntN(25) {
	case 0:
		return "PUT /" + d.key() + "\r\n\r\n" + strings.Repeat("x", api.MaxBody+1)
	case 1:
		return "PUT /" + d.key() + "\r\nX:" + strings.Repeat(" ", api.MaxRequest) + "\r\n\r\n"
	case 2:
		return "GET /\r\n\r\n"
	}
	return d.request()
}

// allKeys are those that a drawer draws.
func (d *drawer) allKeys() []string {
	var keys []string
	for _, c := range "zZ09._-aA" {
		for number := range d.keys {
			keys = append(keys, fmt.Sprintf("k%c%d", c, number))
		}
	}
	return keys
}

// crowd is a store of each number of stripes for each number of workers.
type crowd []struct {
	store            *Store
	stripes, workers int
}

func newCrowd(t *testing.T) crowd {
	var all crowd
	eachSize(func(stripes, workers int) {
		all = append(all, struct {
			store            *Store
			stripes, workers int
		}{newStore(t, stripes), stripes, workers})
	})
	return all
}

func (all crowd) batch(t *testing.T, requests, want []string) {
	t.Helper()
	for _, c := range all {
		answers := batch(t, c.store, requests, c.workers)
		for i := range want {
			if answers[i] != want[i] {
				t.Fatalf("P11: %d stripes, %d workers, request %d of %d, %.90q: %q, want %q", c.stripes, c.workers, i, len(want), requests[i], answers[i], want[i])
			}
		}
	}
}

// TestBatchAgainstDo: batches, with Do and Tick between them, are answered as the model, and a store that is asked by Do alone, answer the requests one after another.
func TestBatchAgainstDo(t *testing.T) {
	for seed := range 12 {
		d := &drawer{Rand: rand.New(rand.NewPCG(uint64(seed), 11)), keys: []int{1, 9, 3}[seed%3], bodies: 2 + seed%4}
		m, alone, all := newModel(), newStore(t, 1+seed%api.MaxStripes), newCrowd(t)
		for range 12 {
			step := d.IntN(3)
			m.time += step
			d.time = m.time
			tick(t, alone, step)
			request := d.batchRequest()
			answer := m.do(request)
			want(t, alone, request, answer)
			for _, c := range all {
				tick(t, c.store, step)
				want(t, c.store, request, answer)
			}
			var requests, answers []string
			for range d.IntN(api.MaxBatch + 1) {
				request := d.batchRequest()
				answer := m.do(request)
				want(t, alone, request, answer)
				requests, answers = append(requests, request), append(answers, answer)
			}
			all.batch(t, requests, answers)
		}
		for _, c := range all {
			if now, want := state(c.store), state(alone); now != want {
				t.Fatalf("P11: %d stripes, %d workers: the store is\n%s\nwant\n%s", c.stripes, c.workers, now, want)
			}
			wantLog(t, c.store, m.log)
		}
		last := all[len(all)-1].store
		if now, want := tellAll(last, d.allKeys()), tellAll(alone, d.allKeys()); now != want {
			t.Fatalf("P11: the store tells\n%s\nwant\n%s", now, want)
		}
	}
}

// roomRequest is of keys of which many are not known yet.
func roomRequest(d *drawer, known int) string {
	key := fmt.Sprintf("n%d", d.IntN(known+8))
	if d.IntN(2) == 0 {
		key = fmt.Sprintf("x%d", d.IntN(30))
	}
	body := fmt.Sprint(d.IntN(2))
	return crlfs(pick(d, "PUT /"+key+"||"+body, "PUT /"+key+"||"+body, "PUT /"+key+"|If-None-Match: *||"+body,
		"PUT /"+key+"|If-Match: *||"+body, "PUT /"+key+"|If-Match: \"x\"||"+body, "PUT /"+key+"|If-Unmodified-Since: "+rules.Stamp(0)+"||"+body,
		"PUT /"+key+"|If-None-Match: *|If-Match: *||", "PUT /"+key+"||"+strings.Repeat("b", api.MaxBody+1), "PUT /"+key+"?v=1||", "PUT /"+key+"|||",
		"DELETE /"+key+"||", "DELETE /"+key+"?v=1||", "GET /"+key+"||", "GET /||", "GET /?after=n5||"))
}

// TestBatchRoom: of new keys, those of the first requests find room, whatever the stripes and workers.
func TestBatchRoom(t *testing.T) {
	for seed := range 40 {
		d := &drawer{Rand: rand.New(rand.NewPCG(uint64(seed), 12))}
		m, all, known := newModel(), newCrowd(t), api.MaxKeys-seed%14
		for number := range known {
			request := fmt.Sprintf("PUT /n%d\r\n\r\n", number)
			answer := m.do(request)
			for _, c := range all {
				want(t, c.store, request, answer)
			}
		}
		refused := 0
		for range 3 {
			var requests, answers []string
			for range api.MaxBatch {
				requests = append(requests, roomRequest(d, known))
				answers = append(answers, m.do(requests[len(requests)-1]))
				if answers[len(answers)-1] == "507\r\n\r\n" {
					refused++
				}
			}
			all.batch(t, requests, answers)
		}
		if refused == 0 {
			t.Errorf("no request was told NoRoom")
		}
		for _, c := range all {
			if now, want := state(c.store), state(all[0].store); now != want {
				t.Fatalf("P11: %d stripes, %d workers: the store is\n%s\nwant\n%s", c.stripes, c.workers, now, want)
			}
			wantLog(t, c.store, m.log)
		}
	}
}

// TestBatchLastRoom: the last room is that of the first request that takes it.
func TestBatchLastRoom(t *testing.T) {
	eachSize(func(stripes, workers int) {
		s := newStore(t, stripes)
		putAll(t, s, manyKeys(api.MaxKeys-1))
		requests := []string{"PUT /x0|If-Match: *||", "PUT /?x1||", "GET /x2||", "DELETE /x3||"}
		for number := range 40 {
			requests = append(requests, fmt.Sprintf("PUT /y%d||", number), fmt.Sprintf("PUT /y%d||", number))
		}
		requests = requests[:api.MaxBatch]
		for i := range requests {
			requests[i] = crlfs(requests[i])
		}
		first := []string{"412||", "400||", "404||", "404||", "201|ETag: " + tag0 + "|Version: 1||", "200|ETag: " + tag0 + "|Version: 2||"}
		for i, a := range batch(t, s, requests, workers) {
			answer := "507||"
			if i < len(first) {
				answer = first[i]
			}
			if a != crlfs(answer) {
				t.Errorf("P11: %d stripes, %d workers, %q: %q, want %q", stripes, workers, requests[i], a, answer)
			}
		}
		want(t, s, "PUT /y1||", "507||")
		want(t, s, "PUT /y0||", "200|ETag: "+tag0+"|Version: 3||")
	})
}

// TestBatchOneWriteWins: of PUTs by one tag of a key the first changes it, the others tell Failed (P14).
func TestBatchOneWriteWins(t *testing.T) {
	eachSize(func(stripes, workers int) {
		s := newStore(t, stripes)
		for _, key := range []string{"k", "l", "m", "n"} {
			want(t, s, "PUT /"+key+"||a", "201|ETag: "+tagA+"|Version: 1||")
		}
		var requests []string
		for i := range api.MaxBatch {
			requests = append(requests, fmt.Sprintf("PUT /%c\r\nIf-Match: %s\r\n\r\nbody %d", "klmn"[i%4], tagA, i))
		}
		for i, a := range batch(t, s, requests, workers) {
			want := "412||"
			if i < 4 {
				want = fmt.Sprintf("200|ETag: \"%s\"|Version: 2||", rules.Tag(fmt.Sprintf("body %d", i)))
			}
			if a != crlfs(want) {
				t.Errorf("P14: %d stripes, %d workers, %q: %q, want %q", stripes, workers, requests[i], a, want)
			}
		}
		want(t, s, "GET /n||", "200|ETag: \""+rules.Tag("body 3")+"\"|Last-Modified: Thu, 01 Jan 1970 00:00:00 GMT|Version: 2||body 3")
	})
}

// TestBatchSharesNothing overwrites what was handed in, and what came out, behind the store's back.
func TestBatchSharesNothing(t *testing.T) {
	eachSize(func(stripes, workers int) {
		s := newStore(t, stripes)
		whole := []byte(crlfs("PUT /key||bodyPUT /other|If-None-Match: \"x\"||textGET /||"))
		text := unsafe.String(&whole[0], len(whole))
		cut, list := strings.Index(text, "PUT /o"), strings.Index(text, "GET")
		requests := []string{text[:cut], text[cut:list], text[list:], "GET /key\r\n\r\n", "x"}
		room := append(make([]string, 0, 9), requests...)
		was := strings.Clone(strings.Join(requests, "-"))
		answers := batch(t, s, room, workers)
		if strings.Join(room, "-") != was || strings.Join(room[5:9], "") != "" {
			t.Errorf("P2: the requests are %q", room)
		}
		told := strings.Clone(strings.Join(answers, "-"))
		for i := range whole {
			whole[i] = '#'
		}
		if strings.Join(answers, "-") != told {
			t.Errorf("P2: the answers are %q, were %q", answers, told)
		}
		kept := tellAll(s, []string{"key", "other"})
		for i := range answers {
			answers[i], room[i] = "#", "#"
		}
		answers = append(answers, "#")
		if now := tellAll(s, []string{"key", "other"}); now != kept {
			t.Errorf("P2: the store tells\n%s\nit told\n%s", now, kept)
		}
		want(t, s, "GET /||", "200||key \""+rules.Tag("body")+"\"\nother \""+rules.Tag("text")+"\"\n")
		want(t, s, "GET /other||", "200|ETag: \""+rules.Tag("text")+"\"|Last-Modified: Thu, 01 Jan 1970 00:00:00 GMT|Version: 1||text")
		if again := batch(t, s, []string{"GET /key\r\n\r\n"}, workers); !strings.HasSuffix(again[0], "\r\n\r\nbody") {
			t.Errorf("P2: the body is now that of %q", again)
		}
	})
}

func TestBatchLeavesNoGoroutine(t *testing.T) {
	s := newStore(t, api.MaxStripes)
	was := runtime.NumGoroutine()
	for round := range 100 {
		var requests []string
		for i := range api.MaxBatch {
			requests = append(requests, crlfs([]string{"PUT /k%d||", "GET /k%d||", "DELETE /k%d||", "GET /?after=k%d||", "x%d"}[(round+i)%5]))
			requests[i] = fmt.Sprintf(requests[i], i)
		}
		batch(t, s, requests, 1+round%api.MaxWorkers)
	}
	// One that has told the WaitGroup that it is done may still be about to end.
	for range 1000 {
		if runtime.NumGoroutine() <= was {
			return
		}
		time.Sleep(time.Millisecond)
	}
	t.Errorf("P2: %d goroutines are left", runtime.NumGoroutine()-was)
}

// TestSharesOfABatch: each worker has stripes of its own, and their requests in order; no request is left out, and the work is spread.
func TestSharesOfABatch(t *testing.T) {
	eachSize(func(stripes, workers int) {
		s := newStore(t, stripes)
		var requests []string
		for i := range api.MaxBatch {
			requests = append(requests, fmt.Sprintf("GET /k%d\r\n\r\n", i))
		}
		tasks := readTasks(requests)
		owner, busy, count := map[*stripe]int{}, 0, 0
		for worker, share := range s.deal(tasks, workers) {
			var numbers []int
			for _, task := range share {
				var number int
				fmt.Sscanf(task.request.Target.Key, "k%d", &number)
				numbers = append(numbers, number)
				own := s.stripeOf(task.request.Target.Key)
				if other, ok := owner[own]; ok && other != worker {
					t.Errorf("the workers %d and %d have one stripe", worker, other)
				}
				owner[own] = worker
			}
			if !slices.IsSorted(numbers) {
				t.Errorf("a worker has the requests %v", numbers)
			}
			if len(share) > 0 {
				busy++
			}
			count += len(share)
		}
		if count != len(tasks) || busy != min(stripes, workers) {
			t.Errorf("%d stripes, %d workers: %d have work, %d requests", stripes, workers, busy, count)
		}
	})
}

// FuzzBatch cuts a text into requests, and holds a batch of them against Do.
func FuzzBatch(f *testing.F) {
	d := &drawer{Rand: rand.New(rand.NewPCG(9, 10)), keys: 1, bodies: 3}
	for size := range uint8(100) {
		var requests []string
		for range size % 20 {
			requests = append(requests, d.request())
		}
		f.Add(size, size/8, strings.Join(requests, "#"))
	}
	f.Fuzz(func(t *testing.T, stripes, workers uint8, text string) {
		s, alone := newStore(t, 1+int(stripes)%api.MaxStripes), newStore(t, 1)
		requests := strings.Split(text, "#")
		if len(requests) > api.MaxBatch {
			requests = requests[:api.MaxBatch]
		}
		for i, a := range batch(t, s, requests, 1+int(workers)%api.MaxWorkers) {
			if want := alone.Do(requests[i]); a != want {
				t.Errorf("P11: request %d, %q: %q, want %q", i, requests[i], a, want)
			}
		}
		if state(s) != state(alone) {
			t.Errorf("P11: the store is\n%s\nwant\n%s", state(s), state(alone))
		}
	})
}

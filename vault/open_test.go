package vault

import (
	"fmt"
	"math"
	"math/rand/v2"
	"strings"
	"testing"
	"unsafe"

	"vault/api"
	"vault/rules"
)

// open finds a store in a journal of which so many bytes are used.
func open(t testing.TB, log string, stripes, used int) *Store {
	t.Helper()
	s, got, errno := Open(log, stripes)
	if s == nil || got != used || errno != api.OK {
		t.Fatalf("P13: Open of %d bytes with %d stripes = %v, %d, %d, want %d used", len(log), stripes, s != nil, got, errno, used)
	}
	return s
}

// history is a row of requests, with time going by, and what the store was behind each record.
type history struct {
	store  *Store
	ends   []int    // of the records
	states []string // each at the time of the record
}

// drawHistory asks so many requests, some of them in batches.
func drawHistory(t testing.TB, d *drawer, count int) *history {
	h := &history{store: newStore(t, 1+d.IntN(api.MaxStripes))}
	h.note()
	for range count {
		if d.IntN(4) == 0 {
			tick(t, h.store, d.IntN(400))
		}
		d.time = h.store.Clock()
		if d.IntN(3) == 0 {
			batch(t, h.store, []string{d.request()}, 1+d.IntN(api.MaxWorkers))
		} else {
			h.store.Do(d.request())
		}
		h.note()
	}
	return h
}

func (h *history) note() {
	end := len(h.store.Log())
	if len(h.ends) == 0 || h.ends[len(h.ends)-1] != end {
		h.ends = append(h.ends, end)
		h.states = append(h.states, state(h.store))
	}
}

// whole tells how many records are whole in so many bytes.
func (h *history) whole(size int) int {
	count := 0
	for count+1 < len(h.ends) && h.ends[count+1] <= size {
		count++
	}
	return count
}

func newDrawer(seed, kind uint64) *drawer {
	return &drawer{Rand: rand.New(rand.NewPCG(seed, kind)), keys: []int{1, 2, 4, 9}[seed%4], bodies: 2 + int(seed%5)}
}

func TestOpenRefused(t *testing.T) {
	for _, log := range []string{"", "x", record(1, 0, "k", 1, ""), record(1, 0, "k", 1, "")[1:]} {
		for _, stripes := range []int{0, -1, api.MaxStripes + 1, math.MaxInt, math.MinInt} {
			if s, used, errno := Open(log, stripes); s != nil || used != 0 || errno != api.ErrArg {
				t.Errorf("P13: Open(%q, %d) = %v, %d, %d", log, stripes, s, used, errno)
			}
		}
	}
}

func TestOpenNothing(t *testing.T) {
	for stripes := 1; stripes <= api.MaxStripes; stripes++ {
		for _, log := range []string{"", "\x00", "\x00\x00\x81\x1c\x9d\xc5", record(1, 5, "k", 2, ""), record(2, 5, "k", 1, ""), record(3, 5, "k", 1, ""), strings.Repeat("x", 100000)} {
			s := open(t, log, stripes, 0)
			if now, want := state(s), state(newStore(t, stripes)); now != want || len(s.stripes) != stripes {
				t.Errorf("P13: the store that was found in %.40q is %s", log, now)
			}
		}
	}
}

// TestOpenWhole: the store that was found is that which was lost, whatever the stripes, and goes on as that would.
func TestOpenWhole(t *testing.T) {
	for seed := range uint64(16) {
		d := newDrawer(seed, 13)
		h := drawHistory(t, d, 300)
		log := h.store.Log()
		var all crowd
		eachSize(func(stripes, workers int) {
			s := open(t, log, stripes, len(log))
			if now, want := state(s), h.states[len(h.states)-1]; now != want {
				t.Fatalf("P13: with %d stripes the store that was found is\n%s\nwant\n%s", stripes, now, want)
			}
			tick(t, s, h.store.Clock()-s.Clock())
			all = append(all, struct {
				store            *Store
				stripes, workers int
			}{s, stripes, workers})
		})
		for range 6 {
			var requests, answers []string
			for range d.IntN(30) {
				requests = append(requests, d.batchRequest())
				answers = append(answers, h.store.Do(requests[len(requests)-1]))
			}
			all.batch(t, requests, answers)
			step := d.IntN(9)
			tick(t, h.store, step)
			for _, c := range all {
				wantLog(t, c.store, h.store.Log())
				tick(t, c.store, step)
			}
		}
		for _, c := range all {
			if now, want := state(c.store), state(h.store); now != want {
				t.Fatalf("P13: with %d stripes the store has become\n%s\nwant\n%s", c.stripes, now, want)
			}
		}
		again := h.store.Log()
		if now, want := tellAll(open(t, again, 3, len(again)), d.allKeys()), tellAll(h.store, d.allKeys()); withoutClock(now) != withoutClock(want) {
			t.Errorf("P13: found again, the store tells\n%s\nwant\n%s", now, want)
		}
	}
}

// withoutClock leaves out the first line of what tellAll tells.
func withoutClock(text string) string {
	_, behind, _ := strings.Cut(text, "\n")
	return behind
}

// TestOpenCut: however much of a journal is left, the store is that behind the records that are whole (P13, P14).
func TestOpenCut(t *testing.T) {
	for seed := range uint64(24) {
		h := drawHistory(t, newDrawer(seed, 14), 60)
		log := h.store.Log()
		for end := range len(log) + 1 {
			count := h.whole(end)
			s := open(t, log[:end], 1+end%api.MaxStripes, h.ends[count])
			if now := state(s); now != h.states[count] {
				t.Fatalf("P14: of %d bytes of %d the store is\n%s\nwant\n%s", end, len(log), now, h.states[count])
			}
		}
	}
}

// TestOpenBehindCut: what stands behind the part that is used does not matter, not even records that would fit later; what is asked further comes behind that part.
func TestOpenBehindCut(t *testing.T) {
	first, second, third := record(1, 5, "k", 1, "a"), record(1, 7, "k", 2, ""), record(1, 9, "k", 3, "")
	for _, behind := range []string{"\x00", second[:len(second)-1], second[1:], third, "x" + second, first, second[:5] + third} {
		s := open(t, first+behind, 3, len(first))
		wantLog(t, s, first)
		if s.Clock() != 5 {
			t.Errorf("P13: the time is %d, want 5", s.Clock())
		}
		want(t, s, "GET /k?versions||", "200||1 5 "+tagA+"\n")
		tick(t, s, 2)
		want(t, s, "PUT /k||", "200|ETag: "+tag0+"|Version: 2||")
		wantLog(t, s, first+second)
		open(t, s.Log()+third, 2, len(first+second+third))
	}
}

// TestOpenChangedByte: a record of which a byte has changed is none, and ends the journal.
func TestOpenChangedByte(t *testing.T) {
	for seed := range uint64(6) {
		d := newDrawer(seed, 15)
		h := drawHistory(t, d, 30)
		log := h.store.Log()
		for place := range len(log) {
			for range 6 {
				changed := log[:place] + string([]byte{log[place] ^ byte(1+d.IntN(255))}) + log[place+1:]
				count := h.whole(place)
				s := open(t, changed, 1+d.IntN(api.MaxStripes), h.ends[count])
				if now := state(s); now != h.states[count] {
					t.Fatalf("P13: with byte %d changed the store is\n%s\nwant\n%s", place, now, h.states[count])
				}
			}
		}
	}
}

func TestOpenAnyBytes(t *testing.T) {
	draw := rand.New(rand.NewPCG(16, 16))
	good := record(1, 5, "k", 1, "a")
	for size := range 3000 {
		text := make([]byte, size)
		for i := range text {
			text[i] = byte(draw.Uint32())
		}
		open(t, string(text), 1+size%api.MaxStripes, 0)
		wantLog(t, open(t, good+string(text), 1+size%api.MaxStripes, len(good)), good)
	}
}

// journalStates are journals that leave the key k in every kind of state, at the time 6, and what can be done to it then.
func journalStates() []struct{ log, can string } {
	put := func(number int) string { return record(1, 6, "k", number, "a") }
	var full, fullOfMark string
	for number := 1; number <= api.MaxVersions; number++ {
		full += put(number)
		if number < api.MaxVersions {
			fullOfMark += put(number)
		}
	}
	fullOfMark += record(2, 6, "k", api.MaxVersions, "")
	other := record(1, 6, "other", 1, "")
	return []struct{ log, can string }{
		{other, "put 1"},
		{put(1), "put 2, mark 2, removal 1"},
		{put(1) + put(2), "put 3, mark 3, removal 1, removal 2"},
		{put(1) + put(2) + record(3, 6, "k", 1, ""), "put 3, mark 3, removal 2"},
		{put(1) + put(2) + record(3, 6, "k", 2, ""), "put 3, mark 3, removal 1"},
		{put(1) + record(2, 6, "k", 2, ""), "put 3, removal 1, removal 2"},
		{put(1) + record(2, 6, "k", 2, "") + record(3, 6, "k", 2, ""), "put 3, mark 3, removal 1"},
		{put(1) + record(2, 6, "k", 2, "") + record(3, 6, "k", 1, ""), "put 3, removal 2"},
		{put(1) + record(3, 6, "k", 1, ""), "put 2"},
		{put(1) + record(3, 6, "k", 1, "") + put(2), "put 3, mark 3, removal 2"},
		{full, removals(1, 20)},
		{fullOfMark, removals(1, 20)},
		{full + record(3, 6, "k", 4, ""), "put 21, mark 21, " + removals(1, 3) + ", " + removals(5, 20)},
		{fullOfMark + record(3, 6, "k", 20, ""), "put 21, mark 21, " + removals(1, 19)},
		{fullOfMark + record(3, 6, "k", 19, ""), "put 21, " + removals(1, 18) + ", removal 20"},
		{full + record(3, 6, "k", 20, "") + put(21), removals(1, 19) + ", removal 21"},
	}
}

func removals(first, last int) string {
	var all []string
	for number := first; number <= last; number++ {
		all = append(all, fmt.Sprintf("removal %d", number))
	}
	return strings.Join(all, ", ")
}

// TestOpenStates: in each state of a key, just that is followed which a store in it could have done.
func TestOpenStates(t *testing.T) {
	kinds := []string{"", "put", "mark", "removal"}
	for _, c := range journalStates() {
		for kind := 1; kind <= 3; kind++ {
			for _, number := range []int{0, 1, 2, 3, 4, 5, 18, 19, 20, 21, 22, 255, 256, 999999999, 1000000000, math.MaxInt32, math.MaxUint32} {
				next := record(byte(kind), 7, "k", number, "")
				can := strings.Contains(", "+c.can+", ", fmt.Sprintf(", %s %d, ", kinds[kind], number))
				want := c.log
				if can {
					want += next
				}
				s := open(t, c.log+next, 1+number%api.MaxStripes, len(want))
				wantLog(t, s, want)
				if can != (s.Clock() == 7) || !can && state(s) != state(open(t, c.log, 1, len(c.log))) {
					t.Errorf("P13: where a store can do %s, behind %s %d it is %s", c.can, kinds[kind], number, state(s))
				}
			}
		}
	}
}

// TestOpenTimes: no record is of a time ahead of that of the last one, or above MaxClock.
func TestOpenTimes(t *testing.T) {
	first := record(1, 784111777, "k", 1, "")
	for kind := byte(1); kind <= 3; kind++ {
		for time, ok := range map[int]bool{784111777: true, 784111778: true, api.MaxClock: true, 784111776: false, 0: false, api.MaxClock + 1: false, -1: false, math.MaxInt: false, math.MinInt: false, math.MinInt + 784111777: false, 784111777 + 1<<40: false} {
			number := 2
			if kind == 3 {
				number = 1
			}
			next, used, now := record(kind, time, "k", number, ""), len(first), 784111777
			if ok {
				used, now = used+len(next), time
			}
			if s := open(t, first+next, 2, used); s.Clock() != now {
				t.Errorf("P13: kind %d of the time %d: the store's time is %d, want %d", kind, time, s.Clock(), now)
			}
		}
	}
	last := record(1, api.MaxClock, "k", 1, "a")
	s := open(t, last, 2, len(last))
	if s.Clock() != api.MaxClock || s.Tick(1) != api.ErrArg || s.Tick(0) != api.OK {
		t.Errorf("P13: at MaxClock the time is %d", s.Clock())
	}
	want(t, s, "HEAD /k||", "200|ETag: "+tagA+"|Last-Modified: Fri, 31 Dec 9999 23:59:59 GMT|Version: 1||")
}

// TestOpenWrongForms: payloads with the right check that no store writes.
func TestOpenWrongForms(t *testing.T) {
	good := record(1, 6, "k", 1, "a")
	for _, bad := range []string{
		framed(""), framed("\x01"), record(0, 6, "k", 2, ""), record(4, 6, "k", 2, ""), record(255, 6, "k", 2, ""),
		record(1, 6, "", 1, ""), record(1, 6, strings.Repeat("j", api.MaxKey+1), 1, ""), record(1, 6, "a/b", 1, ""), record(1, 6, "j\r\n", 1, ""), record(1, 6, "k?v=1", 1, ""), record(1, 6, "\xff", 1, ""),
		record(1, 6, "k", 2, strings.Repeat("b", api.MaxBody+1)), record(2, 6, "k", 2, "x"), record(3, 6, "k", 1, "x"), record(3, 6, "k", 1, "\x00"),
		record(2, 6, "k", 2, "")[1:], "\x00" + record(2, 6, "k", 2, ""),
	} {
		wantLog(t, open(t, good+bad+record(1, 6, "k", 2, ""), 5, len(good)), good)
	}
	key, body := strings.Repeat("Z", api.MaxKey), strings.Repeat("\r\n", api.MaxBody/2)
	long := good + record(1, 6, key, 1, body)
	s := open(t, long, 5, len(long))
	if a := s.Do("GET /" + key + "\r\n\r\n"); !strings.HasSuffix(a, "\r\nVersion: 1\r\n\r\n"+body) {
		t.Errorf("P13: a key and a body as long as they may be: %q", a)
	}
}

// TestOpenRoom: what was found counts for the room that is left, and what was not followed does not.
func TestOpenRoom(t *testing.T) {
	for stripes := 1; stripes <= api.MaxStripes; stripes++ {
		log := ""
		for number := range api.MaxKeys - 1 {
			log += record(1, 0, fmt.Sprintf("k%d", number), 1, "")
		}
		log += record(3, 0, "k7", 1, "") + record(2, 0, "k8", 2, "")
		for _, bad := range []string{"", record(1, 0, "x", 2, ""), record(2, 0, "x", 1, ""), record(3, 0, "x", 1, ""), record(1, -1, "x", 1, "")} {
			s := open(t, log+bad, stripes, len(log))
			want(t, s, "PUT /y||", "201|ETag: "+tag0+"|Version: 1||")
			want(t, s, "PUT /x||", "507||")
			want(t, s, "PUT /k7||", "201|ETag: "+tag0+"|Version: 2||")
			want(t, s, "PUT /k8||", "201|ETag: "+tag0+"|Version: 3||")
		}
		log += record(1, 0, "y", 1, "")
		s := open(t, log+record(1, 0, "x", 1, ""), stripes, len(log))
		want(t, s, "PUT /x||", "507||")
		log += record(1, 0, "k7", 2, "")
		open(t, log, stripes, len(log))
	}
}

// drawRecord is one that could come next, or nearly so.
func drawRecord(d *drawer, m *model) string {
	kind, time := byte(1+d.IntN(3)), m.time+d.IntN(3)
	key := d.key()
	given := 0
	if k := m.keys[key]; k != nil {
		given = k.given
	}
	number := given + 1
	if kind == 3 {
		number = 1 + d.IntN(given+1)
	}
	body := ""
	if kind == 1 {
		body = d.body()
	}
	switch d.IntN(60) {
	case 0:
		time = m.time - 1 - d.IntN(3)
	case 1:
		number += d.IntN(3) - 1
	case 2:
		kind = byte(d.IntN(5))
	case 3:
		body += "x"
	case 4:
		key += pick(d, "/", "?v=1", " ", "\r\nX: y")
	case 5:
		text := []byte(record(kind, time, key, number, body))
		text[d.IntN(len(text))] ^= byte(1 << d.IntN(8))
		return string(text)
	}
	return record(kind, time, key, number, body)
}

// TestOpenAgainstModel: of drawn records, those are followed that a model follows, and the store is as the model is.
func TestOpenAgainstModel(t *testing.T) {
	followed := 0
	for seed := range uint64(400) {
		d := newDrawer(seed, 17)
		log := ""
		m := newModel()
		for range 60 {
			// Now and then what does not follow stays, and ends the journal.
			next := drawRecord(d, m)
			if try := openModel(log + next); len(try.log) > len(log) || d.IntN(40) == 0 {
				log, m = log+next, try
			}
		}
		s := open(t, log, 1+d.IntN(api.MaxStripes), len(m.log))
		wantLog(t, s, m.log)
		if s.Clock() != m.time {
			t.Errorf("P13: the time is %d, want %d", s.Clock(), m.time)
		}
		for _, key := range d.allKeys() {
			want(t, s, "GET /"+key+"?versions||", m.do("GET /"+key+"?versions\r\n\r\n"))
			want(t, s, "GET /?after="+key+"||", m.do("GET /?after="+key+"\r\n\r\n"))
		}
		for range 100 {
			d.time = m.time
			request := d.request()
			want(t, s, request, m.do(request))
		}
		wantLog(t, s, m.log)
		followed += len(m.log)
	}
	if followed < 100000 {
		t.Errorf("only %d bytes were followed", followed)
	}
}

// TestOpenSharesNothing overwrites the journal behind the store's back.
func TestOpenSharesNothing(t *testing.T) {
	log := record(1, 0, "key", 1, "body") + record(1, 0, "other", 1, "text") + record(2, 0, "other", 2, "")
	for stripes := 1; stripes <= api.MaxStripes; stripes++ {
		bytes := []byte(log + "behind")
		s := open(t, unsafe.String(&bytes[0], len(bytes)), stripes, len(log))
		if string(bytes) != log+"behind" {
			t.Errorf("P2: the journal that was handed in is %q", bytes)
		}
		for i := range bytes {
			bytes[i] = '#'
		}
		wantLog(t, s, log)
		want(t, s, "GET /||", "200||key \""+rules.Tag("body")+"\"\n")
		want(t, s, "GET /other?v=1||", "200|ETag: \""+rules.Tag("text")+"\"|Last-Modified: Thu, 01 Jan 1970 00:00:00 GMT|Version: 1||text")
		other := open(t, s.Log(), stripes, len(log))
		other.Do("PUT /key\r\n\r\n")
		tick(t, other, 5)
		wantLog(t, s, log)
		if s.Clock() != 0 {
			t.Errorf("P2: another store's time is %d", s.Clock())
		}
	}
}

// FuzzOpen holds Open against the model. What stands between the bytes # is framed as a payload, so that the drawing comes past the check.
func FuzzOpen(f *testing.F) {
	for seed := range uint64(60) {
		h := drawHistory(f, newDrawer(seed, 18), 20)
		log := h.store.Log()
		f.Add(uint8(seed), false, log)
		var payloads []string
		for i := 1; i < len(h.ends); i++ {
			payloads = append(payloads, log[h.ends[i-1]+2:h.ends[i]-4])
		}
		f.Add(uint8(seed), true, strings.Join(payloads, "#"))
	}
	f.Fuzz(func(t *testing.T, stripes uint8, frame bool, text string) {
		log := text
		if frame && len(text) <= math.MaxUint16 {
			log = ""
			for _, payload := range strings.Split(text, "#") {
				log += framed(payload)
			}
		}
		m := openModel(log)
		s := open(t, log, 1+int(stripes)%api.MaxStripes, len(m.log))
		wantLog(t, s, m.log)
		for key := range m.keys {
			want(t, s, "GET /"+key+"?versions||", m.do("GET /"+key+"?versions\r\n\r\n"))
		}
		for _, request := range []string{"GET /||", "PUT /kz0||x", "DELETE /kz0||", "GET /||"} {
			want(t, s, request, m.do(crlfs(request)))
		}
		if s.Clock() != m.time || s.Log() != m.log {
			t.Errorf("P13: the time is %d, want %d, the journal %q, want %q", s.Clock(), m.time, s.Log(), m.log)
		}
	})
}

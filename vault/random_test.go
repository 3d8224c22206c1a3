package vault

import (
	"fmt"
	"math/rand/v2"
	"strings"
	"testing"

	"vault/api"
	"vault/rules"
)

// drawer draws requests of so many keys and bodies.
type drawer struct {
	*rand.Rand
	keys   int
	bodies int
	time   int
}

func pick(d *drawer, texts ...string) string { return texts[d.IntN(len(texts))] }

func (d *drawer) key() string {
	return "k" + string("zZ09._-aA"[d.IntN(9)]) + fmt.Sprint(d.IntN(d.keys))
}

// body is short, so that some bodies come again.
func (d *drawer) body() string { return strings.Repeat("ab\r\n\x00\xff", d.IntN(d.bodies)) }

func (d *drawer) tags() string {
	list := pick(d, "", "W/") + `"` + rules.Tag(d.body()) + `"`
	return pick(d, "*", list, list, list+` , "x"`, ` "x",`+list+"\t", `"x"`, "x", "")
}

func (d *drawer) date() string {
	return pick(d, rules.Stamp(d.time), rules.Stamp(max(0, d.time-d.IntN(9))), rules.Stamp(d.time+d.IntN(9)), "x")
}

func (d *drawer) fields() string {
	out := ""
	for range d.IntN(3) * d.IntN(2) {
		out += pick(d, "If-Match: "+d.tags(), "IF-None-match:"+d.tags(), "If-Modified-Since: "+d.date(), "if-unmodified-since: \t"+d.date(), "X-y: z", "x:") + "\r\n"
	}
	return out
}

func (d *drawer) request() string {
	key := "/" + d.key()
	version := fmt.Sprintf("?v=%d", 1+d.IntN(30))
	switch d.IntN(12) {
	case 0:
		return "GET " + pick(d, "/", "/?after="+key[1:]) + "\r\n" + d.fields() + "\r\n"
	case 1:
		return "GET " + key + "?versions\r\n" + d.fields() + "\r\n"
	case 2:
		return pick(d, "GET ", "HEAD ", "PUT ", "DELETE ") + pick(d, "/", "/?after=", key, key+version, key+"?versions") + "\r\n" + d.fields() + "\r\n" + pick(d, "", d.body())
	case 3:
		return d.broken()
	case 4, 5:
		return "DELETE " + key + pick(d, version, version, "") + "\r\n" + d.fields() + "\r\n"
	case 6, 7, 8:
		return pick(d, "GET ", "HEAD ") + key + pick(d, version, "") + "\r\n" + d.fields() + "\r\n"
	}
	return "PUT " + key + "\r\n" + d.fields() + "\r\n" + d.body()
}

// broken is a request in which some bytes have gone, come or changed.
func (d *drawer) broken() string {
	const with = "\r\n :/?=\tkv019\"*W\x00\xff"
	bytes := []byte("PUT /" + d.key() + "?v=1\r\n" + d.fields() + "\r\n")
	for range d.IntN(4) {
		place := d.IntN(len(bytes))
		c := with[d.IntN(len(with))]
		switch d.IntN(3) {
		case 0:
			bytes[place] = c
		case 1:
			bytes = append(bytes[:place], bytes[place+1:]...)
		case 2:
			bytes = append(bytes[:place], append([]byte{c}, bytes[place:]...)...)
		}
	}
	return string(bytes)
}

// TestAgainstModel: in long rows of requests, stores of every number of stripes answer what the model does.
func TestAgainstModel(t *testing.T) {
	for seed := range 40 {
		d := &drawer{Rand: rand.New(rand.NewPCG(uint64(seed), 0)), keys: []int{1, 2, 4, 9}[seed%4], bodies: 2 + seed%5}
		m := newModel()
		var stores []*Store
		for stripes := 1; stripes <= api.MaxStripes; stripes++ {
			stores = append(stores, newStore(t, stripes))
		}
		for range 1500 {
			if d.IntN(5) == 0 {
				step := d.IntN(5)
				m.time += step
				for _, s := range stores {
					tick(t, s, step)
				}
			}
			d.time = m.time
			request := d.request()
			want := m.do(request)
			for i, s := range stores {
				if got := s.Do(request); got != want {
					t.Fatalf("with %d stripes Do(%q) = %q, want %q", i+1, request, got, want)
				}
			}
		}
		for i, s := range stores {
			if state(s) != state(stores[0]) {
				t.Fatalf("P2: with %d stripes the store is\n%s\nwith one\n%s", i+1, state(s), state(stores[0]))
			}
			wantLog(t, s, m.log)
		}
	}
}

// TestEveryEdit: requests of which one byte has gone, come or changed are told what the model tells.
func TestEveryEdit(t *testing.T) {
	edits := "\r\n :/?=\t\v,;kvV019.-_\"*WG\x00\x7f\x80\xff"
	for _, whole := range []string{"GET /|X: y||", "GET /?after=k||", "HEAD /k?v=10|A-1:||", "GET /k?versions||", "PUT /k|If-Match: W/\"a\" , \"b\"||ab", "DELETE /k|if-none-match:*|If-Match: *||", "PUT /k|If-Modified-Since:|If-Unmodified-Since: x||"} {
		request := crlfs(whole)
		for place := range len(request) + 1 {
			ahead, behind := request[:place], request[place:]
			tries := []string{ahead, behind, ahead + "\r\n" + behind}
			for i := range len(edits) {
				tries = append(tries, ahead+edits[i:i+1]+behind)
				if behind != "" {
					tries = append(tries, ahead+behind[1:], ahead+edits[i:i+1]+behind[1:])
				}
			}
			for _, try := range tries {
				s, m := newStore(t, 2), newModel()
				s.Do("PUT /k\r\n\r\na")
				m.do("PUT /k\r\n\r\na")
				if got, want := s.Do(try), m.do(try); got != want {
					t.Errorf("Do(%q) = %q, want %q", try, got, want)
				}
			}
		}
	}
}

// TestAnyBytes: bytes at random are no request, and too long a text is not even looked at.
func TestAnyBytes(t *testing.T) {
	s, draw := newStore(t, 5), rand.New(rand.NewPCG(4, 4))
	for size := range api.MaxRequest + 100 {
		text := make([]byte, size)
		for i := range text {
			text[i] = byte(draw.Uint32())
		}
		want := "400\r\n\r\n"
		if size > api.MaxRequest {
			want = "413\r\n\r\n"
		}
		if got := s.Do(string(text)); got != want {
			t.Errorf("P8: Do(%q) = %q, want %q", text, got, want)
		}
	}
	if state(s) != state(newStore(t, 1)) {
		t.Errorf("P1: the store is %s", state(s))
	}
}

// FuzzDo asks two requests in turn, in stores of any number of stripes.
func FuzzDo(f *testing.F) {
	d := &drawer{Rand: rand.New(rand.NewPCG(9, 9)), keys: 1, bodies: 3}
	for stripes := range 200 {
		f.Add(uint8(stripes), d.request(), d.request())
	}
	f.Add(uint8(3), strings.Repeat("x", 2000), strings.Repeat("x", 2001))
	f.Fuzz(func(t *testing.T, stripes uint8, first, second string) {
		s, m := newStore(t, 1+int(stripes)%api.MaxStripes), newModel()
		for _, request := range []string{"PUT /kz0\r\n\r\n", first, second, first, "GET /\r\n\r\n"} {
			if got, want := s.Do(request), m.do(request); got != want {
				t.Errorf("Do(%q) = %q, want %q", request, got, want)
			}
		}
	})
}

package journal

import (
	"encoding/binary"
	"hash/fnv"
	"math"
	"math/rand/v2"
	"strings"
	"testing"

	"vault/api"
)

// framed puts the length ahead of a payload and the check behind it, by the library's own means.
func framed(payload string) string {
	hash := fnv.New32a()
	hash.Write([]byte(payload))
	out := binary.BigEndian.AppendUint16(nil, uint16(len(payload)))
	out = append(out, payload...)
	return string(hash.Sum(out))
}

// payload is one by P12, right or not.
func payload(kind byte, time uint64, key string, number uint32, body string) string {
	out := binary.BigEndian.AppendUint64([]byte{kind}, time)
	out = append(append(out, byte(len(key))), key...)
	out = binary.BigEndian.AppendUint32(out, number)
	return string(out) + body
}

func wantRecord(t *testing.T, text string, want Record) {
	t.Helper()
	for _, behind := range []string{"", "\x00", text, "\xff\xff more"} {
		if r, rest, ok := Cut(text + behind); r != want || rest != behind || !ok {
			t.Errorf("P13: Cut(%q) = %+v, %q, %v, want %+v", text+behind, r, rest, ok, want)
		}
	}
}

func wantNone(t *testing.T, text string) {
	t.Helper()
	if r, rest, ok := Cut(text); r != (Record{}) || rest != "" || ok {
		t.Errorf("P13: Cut(%q) = %+v, %q, %v, want none", text, r, rest, ok)
	}
}

// TestBytes: records byte by byte; the first is that of the document's examples.
func TestBytes(t *testing.T) {
	for _, c := range []struct {
		record Record
		text   string
	}{
		{Record{Put, 0, "k", 1, "a"}, "\x00\x10\x01\x00\x00\x00\x00\x00\x00\x00\x00\x01k\x00\x00\x00\x01a\x7b\xd5\xaf\xf2"},
		{Record{Mark, 258, "k", 2, ""}, "\x00\x0f\x02\x00\x00\x00\x00\x00\x00\x01\x02\x01k\x00\x00\x00\x02\x48\x54\xff\x30"},
		{Record{Removal, 258, "k", 1, ""}, "\x00\x0f\x03\x00\x00\x00\x00\x00\x00\x01\x02\x01k\x00\x00\x00\x01\x2c\x91\xb9\x6e"},
		{Record{Put, api.MaxClock, "a.B", 0x01020304, ""}, framed("\x01\x00\x00\x00\x3a\xff\xf4\x41\x7f\x03a.B\x01\x02\x03\x04")},
	} {
		if text := c.record.Text(); text != c.text {
			t.Errorf("P12: %+v in bytes is %q, want %q", c.record, text, c.text)
		}
		wantRecord(t, c.text, c.record)
	}
}

// edgeRecords have what is least and greatest in a record.
func edgeRecords() []Record {
	var all []Record
	for _, time := range []int{0, 1, 255, 256, 784111777, math.MaxUint32 + 1, api.MaxClock} {
		for _, key := range []string{"k", "-", strings.Repeat("Z", api.MaxKey)} {
			for _, number := range []int{0, 1, 255, 256, 999999999, math.MaxUint32} {
				all = append(all, Record{Mark, time, key, number, ""}, Record{Removal, time, key, number, ""})
				for _, body := range []string{"", "\x00", "\r\n\xff", strings.Repeat("b", api.MaxBody)} {
					all = append(all, Record{Put, time, key, number, body})
				}
			}
		}
	}
	return all
}

func TestEdges(t *testing.T) {
	for _, r := range edgeRecords() {
		text := framed(payload(byte(r.Kind), uint64(r.Time), r.Key, uint32(r.Number), r.Body))
		if got := r.Text(); got != text {
			t.Errorf("P12: %+v in bytes is %q, want %q", r, got, text)
		}
		wantRecord(t, text, r)
	}
}

// TestNotWhole: of what is cut off, or has a byte changed, nothing is read.
func TestNotWhole(t *testing.T) {
	for _, r := range []Record{{Put, 5, "key", 7, "body"}, {Put, 0, "k", 1, ""}, {Mark, 300, "k", 2, ""}, {Removal, api.MaxClock, "a-b", 70000, ""}} {
		text := r.Text()
		for end := range len(text) {
			wantNone(t, text[:end])
		}
		for place := range len(text) {
			for c := range 256 {
				if changed := text[:place] + string([]byte{byte(c)}) + text[place+1:]; changed != text {
					wantNone(t, changed)
					wantNone(t, changed+text)
				}
			}
		}
	}
}

// TestZeroCheckIsNotMissing: where the right check is 0, bytes of it that are missing do not count as 0.
func TestZeroCheckIsNotMissing(t *testing.T) {
	r := Record{Put, 0, "k", 1, "dsujjja"}
	text := r.Text()
	if !strings.HasSuffix(text, "dsujjja\x00\x00\x00\x00") {
		t.Errorf("P12: %+v in bytes is %q", r, text)
	}
	wantRecord(t, text, r)
	for end := range len(text) {
		wantNone(t, text[:end])
	}
}

// TestWrongPayloads: the check is right, and still the payload is of no record's form.
func TestWrongPayloads(t *testing.T) {
	right := payload(1, 5, "key", 7, "")
	wantRecord(t, framed(right), Record{Put, 5, "key", 7, ""})
	for end := range len(right) {
		wantNone(t, framed(right[:end]))
	}
	for kind := range 256 {
		if kind < 1 || kind > 3 {
			wantNone(t, framed(payload(byte(kind), 5, "key", 7, "")))
		}
	}
	for _, time := range []uint64{api.MaxClock + 1, math.MaxInt64, math.MaxInt64 + 1, math.MaxUint64, 1 << 40, 1 << 63} {
		for kind := range 3 {
			wantNone(t, framed(payload(byte(kind+1), time, "key", 7, "")))
		}
	}
	for _, key := range []string{"", strings.Repeat("k", api.MaxKey+1), strings.Repeat("k", 255), "/", "a/b", "a b", "a?", "k\x00", "k\r", "k\n", "ä", "\xff"} {
		for kind := range 3 {
			wantNone(t, framed(payload(byte(kind+1), 5, key, 7, "")))
		}
	}
	for _, body := range []string{"\x00", "b", strings.Repeat("b", api.MaxBody)} {
		wantNone(t, framed(payload(2, 5, "key", 7, body)))
		wantNone(t, framed(payload(3, 5, "key", 7, body)))
	}
	for _, size := range []int{api.MaxBody + 1, api.MaxBody + 2, 1000, math.MaxUint16 - len(right)} {
		wantNone(t, framed(payload(1, 5, "key", 7, strings.Repeat("b", size))))
	}
	// The key takes all that is left, and more.
	for size := range 256 {
		if wrong := right[:9] + string([]byte{byte(size)}) + right[10:]; size != 3 && size != 2 && size != 1 {
			wantNone(t, framed(wrong))
		}
	}
	wantNone(t, framed(""))
	wantNone(t, "")
	wantNone(t, strings.Repeat("\x00", 100))
	wantNone(t, strings.Repeat("\xff", 100000))
}

func TestAnyBytes(t *testing.T) {
	draw := rand.New(rand.NewPCG(5, 5))
	for size := range 2000 {
		text := make([]byte, size)
		for i := range text {
			text[i] = byte(draw.Uint32())
		}
		wantNone(t, string(text))
	}
}

func TestCheck(t *testing.T) {
	if sum := check(""); sum != 2166136261 {
		t.Errorf("P12: the check of nothing is %d", sum)
	}
	draw := rand.New(rand.NewPCG(6, 6))
	for size := range 500 {
		text := make([]byte, size)
		for i := range text {
			text[i] = byte(draw.Uint32())
		}
		hash := fnv.New32a()
		hash.Write(text)
		if sum := check(string(text)); sum != hash.Sum32() {
			t.Errorf("P12: the check of %q is %d, want %d", text, sum, hash.Sum32())
		}
	}
}

// FuzzCut: what is read, written again, is what was read.
func FuzzCut(f *testing.F) {
	for i, r := range edgeRecords() {
		f.Add(r.Text(), i%2 == 0)
		f.Add(r.payload(), true)
	}
	f.Fuzz(func(t *testing.T, text string, frame bool) {
		if frame && len(text) <= math.MaxUint16 {
			text = framed(text)
		}
		r, behind, ok := Cut(text)
		if ok && r.Text()+behind != text {
			t.Errorf("P13: %q is read as %+v with %q behind it", text, r, behind)
		}
		if !ok && (r != Record{} || behind != "") {
			t.Errorf("P1: beside false %+v, %q", r, behind)
		}
	})
}

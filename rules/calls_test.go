package rules

import (
	"math/rand"
	"reflect"
	"runtime"
	"strings"
	"sync"
	"testing"
	"unsafe"

	"vault/api"
)

// drawText draws bytes, mostly of those that mean something to dates and tags.
func drawText(r *rand.Rand) string {
	pieces := []string{`"`, `W/`, `,`, ` `, "\t", `*`, `a`, "Sun, ", "06 ", "Nov ", "1994 ", "08:49:37 ", "GMT", "0", ":", "\r\n", "\x00", "\xff", "é"}
	var b strings.Builder
	for range r.Intn(12) {
		if r.Intn(4) == 0 {
			b.WriteByte(byte(r.Intn(256)))
		} else {
			b.WriteString(pieces[r.Intn(len(pieces))])
		}
	}
	return b.String()
}

func drawTags(r *rand.Rand) api.Tags {
	tags := api.Tags{Any: r.Intn(4) == 0}
	for range r.Intn(4) {
		tags.List = append(tags.List, api.Tag{Weak: r.Intn(2) == 0, Text: drawText(r)})
	}
	return tags
}

func drawAsk(r *rand.Rand) api.Ask {
	coin := func() bool { return r.Intn(2) == 0 }
	q := api.Ask{Write: coin(), HasMatch: coin(), Match: drawTags(r), HasNone: coin(), None: drawTags(r), HasSince: coin(), Since: int(r.Uint64()), HasUnless: coin(), Unless: int(r.Uint64()), There: coin(), Time: int(r.Uint64())}
	if len(q.Match.List) > 0 && coin() {
		q.Tag = q.Match.List[0].Text
	}
	return q
}

// P1: at all numbers, bytes and lists a call answers; and with false it tells nothing else.
func TestCallsAtAnyInput(t *testing.T) {
	r := rand.New(rand.NewSource(1))
	for range 50000 {
		text, sec, q := drawText(r), int(r.Uint64())>>r.Intn(64), drawAsk(r)
		if at, ok := Date(text); !ok && at != 0 {
			t.Fatalf("P1: Date(%q) = %d beside false", text, at)
		}
		if tags, ok := Tags(text); !ok && (tags.Any || len(tags.List) != 0) {
			t.Fatalf("P1: Tags(%q) = %v beside false", text, tags)
		}
		if tag := Tag(text); len(tag) != 16 || strings.Trim(tag, "0123456789abcdef") != "" {
			t.Fatalf("P4: Tag(%q) = %q", text, tag)
		}
		if stamp := Stamp(sec); (stamp != "") != (sec >= 0 && sec <= api.MaxClock) {
			t.Fatalf("P3: Stamp(%d) = %q", sec, stamp)
		}
		if told := Judge(q); told != 0 && told != api.Same && told != api.Failed {
			t.Fatalf("P5: Judge(%+v) = %d", q, told)
		}
	}
}

// P1: a list that goes wrong only at its end tells none of what was read ahead of that.
func TestNothingBesideFalse(t *testing.T) {
	for _, text := range []string{`"a","b",`, `"a","b" x`, `"a",W/"b`, `"a",*`, "\"a\",\"\x7f\""} {
		if tags, ok := Tags(text); ok || tags.Any || len(tags.List) != 0 {
			t.Errorf("P1: Tags(%q) = %v, %v", text, tags, ok)
		}
	}
	for _, text := range []string{"Mon, 06 Nov 1994 08:49:37 GMT", "Sun, 06 Nov 1994 08:49:60 GMT", "Sun, 06 Nov 1994 24:00:00 GMT"} {
		if sec, ok := Date(text); ok || sec != 0 {
			t.Errorf("P1: Date(%q) = %d, %v", text, sec, ok)
		}
	}
}

// answers puts every call to a fixed row of inputs.
func answers() []any {
	r := rand.New(rand.NewSource(2))
	var told []any
	for range 300 {
		text, sec, q := drawText(r), r.Intn(api.MaxClock), drawAsk(r)
		at, isDate := Date(text)
		back, isBack := Date(Stamp(sec))
		tags, isTags := Tags(text)
		told = append(told, at, isDate, back, isBack, tags, isTags, Stamp(sec), Tag(text), Judge(q))
	}
	return told
}

// P2: answers hang on the arguments alone, asked again or by many at once, and no goroutine is left.
func TestSameAnswersAgain(t *testing.T) {
	before := runtime.NumGoroutine()
	want := answers()
	if after := runtime.NumGoroutine(); after > before {
		t.Errorf("P2: %d goroutines ahead of the calls, %d behind them", before, after)
	}
	rows := make([][]any, 8)
	var wait sync.WaitGroup
	for i := range rows {
		wait.Go(func() { rows[i] = answers() })
	}
	wait.Wait()
	for i, row := range rows {
		if !reflect.DeepEqual(row, want) {
			t.Errorf("P2: row %d has other answers", i)
		}
	}
}

// P2: Judge does not write into the lists that it is handed, nor behind them.
func TestJudgeLeavesItsListsAlone(t *testing.T) {
	fresh := func() []api.Tag {
		return []api.Tag{{Text: "b"}, {Weak: true, Text: "a"}, {Text: "a"}, {Text: "behind"}}
	}
	for mix := range 64 {
		match, none := fresh(), fresh()
		q := asked(api.Ask{HasMatch: mix&1 != 0, Match: api.Tags{Any: mix&2 != 0, List: match[:3]}, HasNone: mix&4 != 0, None: api.Tags{Any: mix&8 != 0, List: none[:3]}}, mix&16 != 0, mix&32 != 0)
		Judge(q)
		if !reflect.DeepEqual(match, fresh()) || !reflect.DeepEqual(none, fresh()) {
			t.Errorf("P2: Judge changed its lists: %v, %v", match, none)
		}
	}
}

// P2: two answers share no list, so that whoever writes into one spoils no other.
func TestTagsGivesNewLists(t *testing.T) {
	const text = `"a", W/"b"`
	first, _ := Tags(text)
	clear(first.List[:cap(first.List)])
	second, ok := Tags(text)
	if want := listOf(api.Tag{Text: "a"}, api.Tag{Weak: true, Text: "b"}); !ok || !sameTags(second, want) {
		t.Errorf("P2: Tags(%q) = %v, %v behind a change of an earlier answer", text, second, ok)
	}
}

// P2: the text that is handed in is not kept, not even as a piece of it in the answer.
func TestTagsKeepsNothingOfItsText(t *testing.T) {
	text := strings.Join([]string{`"first"`, `W/"second"`}, ", ")
	tags, ok := Tags(text)
	if !ok || len(tags.List) != 2 {
		t.Fatalf("P4: Tags(%q) = %v, %v", text, tags, ok)
	}
	from := uintptr(unsafe.Pointer(unsafe.StringData(text)))
	for _, tag := range tags.List {
		at := uintptr(unsafe.Pointer(unsafe.StringData(tag.Text)))
		if at >= from && at < from+uintptr(len(text)) {
			t.Errorf("P2: the tag %q is a piece of the text", tag.Text)
		}
	}
}

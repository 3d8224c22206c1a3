package rules

import (
	"fmt"
	"hash/fnv"
	"regexp"
	"slices"
	"strings"
	"testing"

	"vault/api"
)

// sameTags takes a list without elements for the same, nil or not (P2).
func sameTags(a, b api.Tags) bool {
	return a.Any == b.Any && slices.Equal(a.List, b.List)
}

func checkTags(t *testing.T, text string, want api.Tags, wantOK bool) {
	t.Helper()
	if tags, ok := Tags(text); !sameTags(tags, want) || ok != wantOK {
		t.Errorf("P4: Tags(%q) = %v, %v, want %v, %v", text, tags, ok, want, wantOK)
	}
}

func listOf(tags ...api.Tag) api.Tags { return api.Tags{List: tags} }

func TestTagsOfLists(t *testing.T) {
	a, b, empty := api.Tag{Text: "a"}, api.Tag{Text: "b"}, api.Tag{}
	weakA, weakEmpty := api.Tag{Weak: true, Text: "a"}, api.Tag{Weak: true}
	for _, c := range []struct {
		text string
		want api.Tags
	}{
		{`*`, api.Tags{Any: true}},
		{" \t *\t \t", api.Tags{Any: true}},
		{`"a"`, listOf(a)},
		{`""`, listOf(empty)},
		{`W/"a"`, listOf(weakA)},
		{`W/""`, listOf(weakEmpty)},
		{` W/"a" , "" `, listOf(weakA, empty)},
		{"\t\t\"a\"  ", listOf(a)},
		{`"a","b"`, listOf(a, b)},
		{`"b","a"`, listOf(b, a)},
		{`"a" ,"b"`, listOf(a, b)},
		{`"a", "b"`, listOf(a, b)},
		{"\"a\" \t ,\t \t\"b\"", listOf(a, b)},
		{`"a","a",W/"a","a"`, listOf(a, a, weakA, a)},
		{`"","",W/""`, listOf(empty, empty, weakEmpty)},
		{`"a,b"`, listOf(api.Tag{Text: "a,b"})},
		{`",",","`, listOf(api.Tag{Text: ","}, api.Tag{Text: ","})},
		{`"*"`, listOf(api.Tag{Text: "*"})},
		{`"W/"`, listOf(api.Tag{Text: "W/"})},
		{`W/"W/","\"`, listOf(api.Tag{Weak: true, Text: "W/"}, api.Tag{Text: `\`})},
		{`"é"`, listOf(api.Tag{Text: "é"})},
		{"\"\x80\xff\"", listOf(api.Tag{Text: "\x80\xff"})},
	} {
		checkTags(t, c.text, c.want, true)
	}
}

func TestTagsOfNoLists(t *testing.T) {
	for _, text := range []string{
		``, ` `, "\t", " \t ", `,`, ` , `, `a`, `W`, `W/`, `"`, `"""`, `"a`, `a"`, `W/"`, `W/"a`,
		`"a",`, `"a" , `, `,"a"`, ` ,"a"`, `"a",,"b"`, `"a", ,"b"`, `"a" "b"`, `"a""b"`, "\"a\"\t\"b\"", `"a";"b"`,
		`w/"a"`, `W /"a"`, `W/ "a"`, `W\"a"`, `W"a"`, `W/W/"a"`, `/"a"`, `W/a`, `"a"W/"b"`, `"a" W/`, `"a"x`, `x"a"`,
		`**`, `* *`, `*,*`, `*,`, `,*`, `*,"a"`, `"a",*`, `"a", *`, `W/*`, `*a`,
		`"a b"`, `" a"`, `"a "`, `" "`, "\"a\tb\"", "\"a\"\n", "\n\"a\"", "\"a\"\r\n", "\"a\",\r\n\"b\"", "\v*", "*\f", "\u00a0*", "\"a\"\u00a0", "\"a\x00\"", "\x00", "\xff", "'a'", "“a”",
	} {
		checkTags(t, text, api.Tags{}, false)
	}
}

func TestBytesOfTags(t *testing.T) {
	for c := range 256 {
		text := string([]byte{byte(c)})
		right := c == 33 || c >= 35 && c <= 126 || c >= 128
		for _, text := range []string{text, "x" + text, text + "x", "x" + text + "x"} {
			want := api.Tags{}
			if right {
				want = listOf(api.Tag{Text: text})
			}
			checkTags(t, `"`+text+`"`, want, right)
		}
		// Of bytes that stand in front or at the end, only blanks do not count.
		blank := c == 32 || c == 9
		for _, inner := range []string{`*`, `"a"`} {
			if _, ok := Tags(text + inner); ok != blank {
				t.Errorf("P4: Tags(%q) is %v, want %v", text+inner, ok, blank)
			}
			if _, ok := Tags(inner + text); ok != blank {
				t.Errorf("P4: Tags(%q) is %v, want %v", inner+text, ok, blank)
			}
		}
		for _, text := range []string{`"a"` + text + `,"b"`, `"a",` + text + `"b"`} {
			if _, ok := Tags(text); ok != blank {
				t.Errorf("P4: Tags(%q) is %v, want %v", text, ok, blank)
			}
		}
	}
}

// P4's words as expressions; bytes are asked as the runes of the same numbers.
var (
	wholeList = regexp.MustCompile(`^[ \t]*(?:W/)?"[\x21\x23-\x7e\x{80}-\x{ff}]*"(?:[ \t]*,[ \t]*(?:W/)?"[\x21\x23-\x7e\x{80}-\x{ff}]*")*[ \t]*$`)
	anyList   = regexp.MustCompile(`^[ \t]*\*[ \t]*$`)
	oneTag    = regexp.MustCompile(`(W/)?"([^"]*)"`)
)

func bytesAsRunes(text string) string {
	var b strings.Builder
	for i := range len(text) {
		b.WriteRune(rune(text[i]))
	}
	return b.String()
}

func runesAsBytes(text string) string {
	var b strings.Builder
	for _, r := range text {
		b.WriteByte(byte(r))
	}
	return b.String()
}

func wantTags(text string) (api.Tags, bool) {
	text = bytesAsRunes(text)
	if anyList.MatchString(text) {
		return api.Tags{Any: true}, true
	}
	if !wholeList.MatchString(text) {
		return api.Tags{}, false
	}
	var list []api.Tag
	for _, found := range oneTag.FindAllStringSubmatch(text, -1) {
		list = append(list, api.Tag{Weak: found[1] != "", Text: runesAsBytes(found[2])})
	}
	return api.Tags{List: list}, true
}

// Every text of up to 6 bytes of those that mean something to a list.
func TestEveryShortList(t *testing.T) {
	const letters = "\"W/, \t*\xff"
	texts := []string{""}
	for range 6 {
		var longer []string
		for _, text := range texts {
			for i := range len(letters) {
				longer = append(longer, text+letters[i:i+1])
			}
		}
		for _, text := range longer {
			want, wantOK := wantTags(text)
			checkTags(t, text, want, wantOK)
		}
		texts = longer
	}
}

func FuzzTags(f *testing.F) {
	f.Add(` W/"a" , "" `)
	f.Add("\"a\",\t\"\xff\"")
	f.Fuzz(func(t *testing.T, text string) {
		want, wantOK := wantTags(text)
		checkTags(t, text, want, wantOK)
	})
}

func TestLongLists(t *testing.T) {
	const many = 20000
	texts := make([]string, many)
	want := api.Tags{}
	for i := range many {
		texts[i] = fmt.Sprintf(`W/"%d"`, i)
		want.List = append(want.List, api.Tag{Weak: true, Text: fmt.Sprint(i)})
	}
	checkTags(t, strings.Join(texts, " , "), want, true)
	checkTags(t, strings.Join(texts, " , ")+" , ", api.Tags{}, false)
	long := strings.Repeat("x", 1<<20)
	checkTags(t, `"`+long+`"`, listOf(api.Tag{Text: long}), true)
	checkTags(t, `"`+long, api.Tags{}, false)
}

func TestTagOfBodies(t *testing.T) {
	for body, want := range map[string]string{
		"": "cbf29ce484222325", "a": "af63dc4c8601ec8c", "foobar": "85944171f73967e8",
		"\x00": "af63bd4c8601b7df", "\xff": "af64724c8602eb6e",
	} {
		if tag := Tag(body); tag != want {
			t.Errorf("P4: Tag(%q) = %q, want %q", body, tag, want)
		}
	}
}

func TestTagOfManyBodies(t *testing.T) {
	noughts := 0
	for i := range 20000 {
		body := strings.Repeat(string([]byte{byte(i), byte(i >> 8), byte(i * 31)}), i%140) + string([]byte{byte(i >> 3)})
		hash := fnv.New64a()
		hash.Write([]byte(body))
		want := fmt.Sprintf("%016x", hash.Sum64())
		if tag := Tag(body); tag != want {
			t.Fatalf("P4: Tag(%q) = %q, want %q", body, tag, want)
		}
		if want[0] == '0' {
			noughts++
		}
	}
	if noughts == 0 {
		t.Error("no body was drawn whose tag begins with 0")
	}
}

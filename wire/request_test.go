package wire

import (
	"reflect"
	"strings"
	"testing"

	"vault/api"
)

// crlfs puts CRLF for each |.
func crlfs(text string) string { return strings.ReplaceAll(text, "|", "\r\n") }

func wantTold(t *testing.T, text string, told int) {
	t.Helper()
	q, got := Read(crlfs(text))
	if got != told {
		t.Errorf("Read(%.80q) tells %d, want %d", crlfs(text), got, told)
	}
	if got != 0 && !reflect.DeepEqual(q, Request{}) {
		t.Errorf("Read(%.80q) gives %v beside %d", crlfs(text), q, got)
	}
}

func wantRead(t *testing.T, text string, want Request) {
	t.Helper()
	if q, told := Read(crlfs(text)); told != 0 || !reflect.DeepEqual(q, want) {
		t.Errorf("Read(%.80q) = %+v, %d, want %+v", crlfs(text), q, told, want)
	}
}

func TestMethods(t *testing.T) {
	target := Target{Kind: Key, Key: "k"}
	wantRead(t, "GET /k||", Request{Method: Get, Target: target})
	wantRead(t, "HEAD /k||", Request{Method: Head, Target: target})
	wantRead(t, "PUT /k||", Request{Method: Put, Target: target, Ask: api.Ask{Write: true}})
	wantRead(t, "DELETE /k||", Request{Method: Delete, Target: target, Ask: api.Ask{Write: true}})
	for _, method := range []string{"", "get", "Put", "GETS", "GE", "POST", "HEAD\t", "\x00GET", "DELETE\r", "GET GET"} {
		wantTold(t, method+" /k||", api.Bad)
	}
	for _, line := range []string{"GET/k", "GET  /k", "GET\t/k", " GET /k", "GET /k ", "GET /k HTTP/1.1", "GET", "GET ", "/k", ""} {
		wantTold(t, line+"||", api.Bad)
	}
}

func TestTargets(t *testing.T) {
	long := strings.Repeat("Z", api.MaxKey)
	every := "abcdefghijklmnopqrstuvwxyz"
	for text, want := range map[string]Target{
		"/":                 {Kind: Keys},
		"/?after=a":         {Kind: Keys, Key: "a"},
		"/?after=" + long:   {Kind: Keys, Key: long},
		"/a":                {Kind: Key, Key: "a"},
		"/.":                {Kind: Key, Key: "."},
		"/0123456789._-":    {Kind: Key, Key: "0123456789._-"},
		"/" + every:         {Kind: Key, Key: every},
		"/ABCXYZ":           {Kind: Key, Key: "ABCXYZ"},
		"/" + long:          {Kind: Key, Key: long},
		"/after":            {Kind: Key, Key: "after"},
		"/a?versions":       {Kind: Versions, Key: "a"},
		"/versions?v=1":     {Kind: Version, Key: "versions", Number: 1},
		"/a?v=10":           {Kind: Version, Key: "a", Number: 10},
		"/a?v=123456789":    {Kind: Version, Key: "a", Number: 123456789},
		"/a?v=999999999":    {Kind: Version, Key: "a", Number: 999999999},
		"/" + long + "?v=9": {Kind: Version, Key: long, Number: 9},
	} {
		wantRead(t, "GET "+text+"||", Request{Target: want})
	}
	for _, text := range []string{
		"", "a", "*", "//", "/a/", "//a", "/a/b", "/ ", "/a b", "/ä", "/a\x00", "/%61", "/a\r", "/a\n", "/a~", "/a,", "/:", "/@", "/[", "/`", "/{",
		"/" + long + "Z", "/" + long + "Z?versions", "/" + long + "Z?v=1", "/?after=" + long + "Z",
		"/?", "/?after", "/?after=", "/?After=a", "/?after=a/", "/?after=a?v=1", "/?after=a&", "/?versions", "/?v=1", "/?before=a",
		"/a?", "/a?version", "/a?versionss", "/a?Versions", "/a?versions=", "/a?versions?v=1", "/a?after=b", "/a??versions",
		"/a?v", "/a?v=", "/a?V=1", "/a?v=0", "/a?v=01", "/a?v=+1", "/a?v=-1", "/a?v=1 ", "/a?v=1x", "/a?v=1.0", "/a?v=1234567890", "/a?v=0123456789", "/a?v=1?versions", "/a?v=1&v=2", "/a?v=/", "/a?v=:", "/a?v=1/", "/a?v=1:",
	} {
		wantTold(t, "GET "+text+"||", api.Bad)
	}
}

func TestKeyAndNameBytes(t *testing.T) {
	letters := "abcdefghijklmnopqrstuvwxyzABCDEFGHIJKLMNOPQRSTUVWXYZ0123456789"
	for c := range 256 {
		text := string([]byte{byte(c)})
		if want := strings.Contains(letters+"._-", text); IsKey(text) != want || IsKey("a"+text) != want {
			t.Errorf("P7: the byte %d in a key: %v, want %v", c, !want, want)
		}
		if want := strings.Contains(letters+"-", text); isName(text) != want || isName("a"+text) != want {
			t.Errorf("P7: the byte %d in the name of a field: %v, want %v", c, !want, want)
		}
	}
}

const (
	day  = "Sun, 06 Nov 1994 08:49:37 GMT"
	zero = "Thu, 01 Jan 1970 00:00:00 GMT"
)

func TestFields(t *testing.T) {
	a := api.Tags{List: []api.Tag{{Text: "a"}}}
	both := api.Tags{List: []api.Tag{{Text: "a"}, {Weak: true, Text: "b"}}}
	for fields, want := range map[string]api.Ask{
		"":                                       {},
		"X:|":                                    {},
		"X: \t |x:|X:y|":                         {},
		"-: : |0:::|":                            {},
		"A: \x00\x01\x7f\x80\xff\"é|":            {},
		"Match: x|If-Matches: x|f-Match: x|":     {},
		"If-Match: *|":                           {HasMatch: true, Match: api.Tags{Any: true}},
		"If-Match:\"a\"|":                        {HasMatch: true, Match: a},
		"IF-MATCH: \t\"a\"\t , W/\"b\" \t|":      {HasMatch: true, Match: both},
		"if-none-match:*|":                       {HasNone: true, None: api.Tags{Any: true}},
		"iF-nOnE-mAtCh: \"a\"|":                  {HasNone: true, None: a},
		"If-Modified-Since: " + day + "|":        {HasSince: true, Since: 784111777},
		"if-modified-since:\t " + zero + " \t|":  {HasSince: true},
		"IF-UNMODIFIED-SINCE:" + day + "|":       {HasUnless: true, Unless: 784111777},
		"If-Unmodified-Since: x|":                {},
		"If-Modified-Since:|":                    {},
		"If-Modified-Since: Mon" + day[3:] + "|": {},
		"If-Modified-Since: " + day + "x|":       {},
		"If-Modified-Since: " + day + "\f|":      {},
		"If-Unmodified-Since: \v" + day + "|":    {},
		"X: y|If-Unmodified-Since: " + zero + "|If-Match: \"a\"|X: z|If-None-Match: *|If-Modified-Since: " + day + "|Y:|": {
			HasMatch: true, Match: a, HasNone: true, None: api.Tags{Any: true}, HasSince: true, Since: 784111777, HasUnless: true},
	} {
		wantRead(t, "GET /k|"+fields+"|", Request{Target: Target{Kind: Key, Key: "k"}, Ask: want})
	}
}

func TestWrongFields(t *testing.T) {
	for _, fields := range []string{
		"X|", ":|", ": y|", "X : y|", " X: y|", "X Y: z|", "X_Y: z|", "X.Y: z|", "Ü: z|", "\t: z|", "X: y| z|", "X\x00: y|",
		"X: y\rz|", "X: y\nz|", "X: y\r|", "X: y\n|", "X:\r|", "\rX: y|", "\nX: y|", "X: y\n\r|",
		"If-Match:|", "If-Match: \t|", "If-Match: a|", "If-Match: \"a|", "If-Match: \"a\",|", "If-Match: *,*|", "If-Match: w/\"a\"|",
		"If-Match: \v*|", "If-Match: *\f|", "If-Match: \u00a0*|", "If-None-Match: *\x00|",
		"If-None-Match:|", "If-None-Match: x|", "If-None-Match: \"a\" \"b\"|", "if-NONE-match: **|",
		"If-Match: *|If-Match: *|", "If-Match: *|if-match: \"a\"|", "If-Match: *|X: y|IF-MATCH: *|",
		"If-None-Match: *|If-none-match: *|",
		"If-Modified-Since: " + day + "|if-modified-since: " + day + "|", "If-Modified-Since: x|If-Modified-Since: " + day + "|", "If-Modified-Since:|If-Modified-Since:|",
		"If-Unmodified-Since: " + day + "|If-Unmodified-Since: x|", "If-Unmodified-Since: x|If-UNMODIFIED-Since: x|",
	} {
		wantTold(t, "GET /k|"+fields+"|", api.Bad)
		wantTold(t, "GET /|"+fields+"|", api.Bad)
	}
}

func TestLineEnds(t *testing.T) {
	whole := crlfs("PUT /k|X: y||")
	wantTold(t, whole, 0)
	for end := range len(whole) {
		wantTold(t, whole[:end], api.Bad)
	}
	for _, half := range []string{"\r", "\n", "\n\r", "\n\n", "\r\r", ""} {
		wantTold(t, "PUT /k"+half+"X: y||", api.Bad)
		wantTold(t, "PUT /k|X: y"+half, api.Bad)
		wantTold(t, "PUT /k|X: y|"+half, api.Bad)
	}
	wantTold(t, "|PUT /k||", api.Bad)
}

func TestBody(t *testing.T) {
	put := Request{Method: Put, Target: Target{Kind: Key, Key: "k"}, Ask: api.Ask{Write: true}}
	full := strings.Repeat("x", api.MaxBody)
	for _, body := range []string{"", "a", "\r\n", "\r\n\r\n", "\n", "X: y\r\n\r\n", "GET /k\r\n\r\n", "\x00\xff", " a ", full, full[1:]} {
		put.Body = body
		wantRead(t, "PUT /k||"+body, put)
	}
	wantTold(t, "PUT /k||"+full+"x", api.TooLong)
	for _, head := range []string{"GET /k", "HEAD /k", "DELETE /k", "GET /", "PUT /", "HEAD /", "DELETE /", "GET /?after=a", "PUT /?after=a", "PUT /k?versions", "PUT /k?v=1", "GET /k?v=1", "DELETE /k?v=1"} {
		wantTold(t, head+"||x", api.Bad)
		wantTold(t, head+"|||", api.Bad)
		wantTold(t, head+"||"+full+"x", api.Bad)
	}
}

func TestMethodsForTargets(t *testing.T) {
	fits := map[string]string{
		"/":           "GET",
		"/?after=a":   "GET",
		"/k?versions": "GET",
		"/k?v=1":      "GET HEAD DELETE",
		"/k":          "GET HEAD PUT DELETE",
	}
	for target, methods := range fits {
		for _, method := range []string{"GET", "HEAD", "PUT", "DELETE"} {
			told := api.NotFor
			if strings.Contains(methods, method) {
				told = 0
			}
			wantTold(t, method+" "+target+"||", told)
			wantTold(t, method+" "+target+"|If-Match: \"x\"||", told)
		}
	}
}

// TestFirstThatFits: of several things that are wrong with a request, the first of P8's order is told.
func TestFirstThatFits(t *testing.T) {
	padded := func(head, body string, size int) string {
		head += "X: "
		return head + strings.Repeat("p", size-len(head)-len("\r\n\r\n")-len(body)) + "\r\n\r\n" + body
	}
	big := strings.Repeat("b", api.MaxBody+1)
	for _, c := range []struct {
		text string
		told int
	}{
		{padded("GET /k\r\n", "", api.MaxRequest), 0},
		{padded("GET /k\r\n", "", api.MaxRequest+1), api.TooLong},
		{padded("PUT /k\r\n", big[1:], api.MaxRequest), 0},
		{padded("PUT /k\r\n", big[1:], api.MaxRequest+1), api.TooLong},
		{strings.Repeat("x", api.MaxRequest), api.Bad},
		{strings.Repeat("x", api.MaxRequest+1), api.TooLong},
		{strings.Repeat("\r\n", 100000), api.TooLong},
		{padded("HEAD /\r\n", "", api.MaxRequest+1), api.TooLong},
		{padded("HEAD /\r\n", "", api.MaxRequest), api.NotFor},
		{padded("HEAD /\r\n", "x", api.MaxRequest), api.Bad},
		{"PUT /k\r\n\r\n" + big, api.TooLong},
		{"PUT /k\r\nIf-Match: x\r\n\r\n" + big, api.Bad},
		{"PUT /k\r\nIf-Modified-Since:\r\nIf-Modified-Since:\r\n\r\n" + big, api.Bad},
		{"PUT /k?v=1\r\n\r\n" + big, api.Bad},
		{"PUT /\r\nIf-Match:\r\n\r\n", api.Bad},
		{"PUT /\r\n\r\n", api.NotFor},
		{"", api.Bad},
	} {
		if _, told := Read(c.text); told != c.told {
			t.Errorf("P8: Read(%.60q), %d bytes, tells %d, want %d", c.text, len(c.text), told, c.told)
		}
	}
}

func TestAnswerText(t *testing.T) {
	for want, a := range map[string]Answer{
		"404||":                 {Told: 404},
		"200||a\r\n":            {Told: 200, Body: "a\r\n"},
		"200|A: b||":            {Told: 200, Fields: []Field{{"A", "b"}}},
		"204|B: |A: \"c\"||||x": {Told: 204, Fields: []Field{{"B", ""}, {"A", `"c"`}}, Body: "\r\n\r\nx"},
	} {
		if got := a.Text(); got != crlfs(want) {
			t.Errorf("P8: %+v in bytes is %q, want %q", a, got, crlfs(want))
		}
	}
}

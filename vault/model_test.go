package vault

import (
	"encoding/binary"
	"fmt"
	"hash/fnv"
	"maps"
	"regexp"
	"slices"
	"strings"

	"vault/api"
	"vault/rules"
)

// model is the store as the document tells it, without stripes and locks, read by regular expressions: what the store answers is held against it.
type model struct {
	time int
	keys map[string]*modelKey
	log  string
}

type modelKey struct {
	given    int
	versions map[int]modelVersion
}

type modelVersion struct {
	time int
	gone bool
	body string
}

const keyForm = `[a-zA-Z0-9._-]{1,40}`

var (
	requestForm = regexp.MustCompile(`(?s)^(GET|HEAD|PUT|DELETE) (/|/\?after=` + keyForm + `|/` + keyForm + `(?:\?versions|\?v=[1-9][0-9]{0,8})?)\r\n((?:[a-zA-Z0-9-]+:[^\r\n]*\r\n)*)\r\n(.*)$`)
	fieldForm   = regexp.MustCompile(`([a-zA-Z0-9-]+):[ \t]*([^\r\n]*?)[ \t]*\r\n`)
	targetForm  = regexp.MustCompile(`^/(` + keyForm + `)(?:\?v=(\d+))?$`)
)

// wide makes a rune of each byte, so that a regular expression sees bytes.
func wide(text string) string {
	runes := make([]rune, len(text))
	for i := range len(text) {
		runes[i] = rune(text[i])
	}
	return string(runes)
}

func narrow(text string) string {
	var out []byte
	for _, r := range text {
		out = append(out, byte(r))
	}
	return string(out)
}

func newModel() *model { return &model{keys: map[string]*modelKey{}} }

func (m *model) do(request string) string {
	if len(request) > 2000 {
		return "413\r\n\r\n"
	}
	parts := requestForm.FindStringSubmatch(wide(request))
	if parts == nil {
		return "400\r\n\r\n"
	}
	method, target, body := parts[1], parts[2], narrow(parts[4])
	ask, ok := modelAsk(parts[3])
	isKey := target != "/" && !strings.Contains(target, "?")
	if !ok || body != "" && !(method == "PUT" && isKey) {
		return "400\r\n\r\n"
	}
	if len(body) > 400 {
		return "413\r\n\r\n"
	}
	isVersion := strings.Contains(target, "?v=")
	if method == "PUT" && !isKey || (method == "HEAD" || method == "DELETE") && !isKey && !isVersion {
		return "405\r\n\r\n"
	}
	ask.Write = method == "PUT" || method == "DELETE"
	if key, ok := strings.CutSuffix(target[1:], "?versions"); ok {
		return m.listVersions(key)
	}
	if target == "/" || strings.HasPrefix(target, "/?after=") {
		return m.listKeys(strings.TrimPrefix(target[1:], "?after="))
	}
	return m.ofKey(method, target, ask, body)
}

func modelAsk(fields string) (api.Ask, bool) {
	var ask api.Ask
	seen := map[string]bool{}
	for _, f := range fieldForm.FindAllStringSubmatch(fields, -1) {
		name, value, ok := strings.ToLower(f[1]), narrow(f[2]), true
		switch name {
		case "if-match":
			ask.Match, ok = rules.Tags(value)
			ask.HasMatch = true
		case "if-none-match":
			ask.None, ok = rules.Tags(value)
			ask.HasNone = true
		case "if-modified-since":
			ask.Since, ask.HasSince = rules.Date(value)
		case "if-unmodified-since":
			ask.Unless, ask.HasUnless = rules.Date(value)
		default:
			continue
		}
		if !ok || seen[name] {
			return api.Ask{}, false
		}
		seen[name] = true
	}
	return ask, true
}

func (k *modelKey) greatest() int {
	n := 0
	for number := range k.versions {
		n = max(n, number)
	}
	return n
}

func (m *model) ofKey(method, target string, ask api.Ask, body string) string {
	parts := targetForm.FindStringSubmatch(target)
	name, number := parts[1], 0
	key, known := m.keys[name]
	if !known {
		key = &modelKey{versions: map[int]modelVersion{}}
	}
	if parts[2] == "" {
		number = key.greatest()
	} else {
		fmt.Sscan(parts[2], &number)
	}
	v, has := key.versions[number]
	there := has && !v.gone
	if there {
		ask.There, ask.Tag, ask.Time = true, rules.Tag(v.body), v.time
	}
	if told := rules.Judge(ask); told != 0 {
		return fmt.Sprintf("%d\r\n\r\n", told)
	}
	full := len(key.versions) == 20
	switch {
	case method == "PUT":
		if !known && len(m.keys) == 60 || full {
			return "507\r\n\r\n"
		}
		m.keys[name] = key
		told := 201
		if there {
			told = 200
		}
		n := key.put(modelVersion{time: m.time, body: body})
		m.log += record(1, m.time, name, n, body)
		return fmt.Sprintf("%d\r\nETag: %q\r\nVersion: %d\r\n\r\n", told, rules.Tag(body), n)
	case method == "DELETE" && parts[2] != "":
		if !has {
			return "404\r\n\r\n"
		}
		delete(key.versions, number)
		m.log += record(3, m.time, name, number, "")
		return fmt.Sprintf("204\r\nVersion: %d\r\n\r\n", number)
	case !there:
		return "404\r\n\r\n"
	case method == "DELETE":
		if full {
			return "507\r\n\r\n"
		}
		n := key.put(modelVersion{time: m.time, gone: true})
		m.log += record(2, m.time, name, n, "")
		return fmt.Sprintf("204\r\nVersion: %d\r\n\r\n", n)
	}
	out := fmt.Sprintf("200\r\nETag: %q\r\nLast-Modified: %s\r\nVersion: %d\r\n\r\n", rules.Tag(v.body), rules.Stamp(v.time), number)
	if method == "GET" {
		out += v.body
	}
	return out
}

func (k *modelKey) put(v modelVersion) int {
	k.given++
	k.versions[k.given] = v
	return k.given
}

func (m *model) listVersions(name string) string {
	key := m.keys[name]
	if key == nil || len(key.versions) == 0 {
		return "404\r\n\r\n"
	}
	numbers := slices.Sorted(maps.Keys(key.versions))
	slices.Reverse(numbers)
	out := "200\r\n\r\n"
	for _, n := range numbers {
		v := key.versions[n]
		tag := `"` + rules.Tag(v.body) + `"`
		if v.gone {
			tag = "gone"
		}
		out += fmt.Sprintf("%d %d %s\n", n, v.time, tag)
	}
	return out
}

func (m *model) listKeys(after string) string {
	var lines []string
	for _, name := range slices.Sorted(maps.Keys(m.keys)) {
		key := m.keys[name]
		v, has := key.versions[key.greatest()]
		if name > after && has && !v.gone {
			lines = append(lines, fmt.Sprintf("%s %q\n", name, rules.Tag(v.body)))
		}
	}
	if len(lines) <= 50 {
		return "200\r\n\r\n" + strings.Join(lines, "")
	}
	last, _, _ := strings.Cut(lines[49], " ")
	return "200\r\nMore: " + last + "\r\n\r\n" + strings.Join(lines[:50], "")
}

// record is the bytes of one (P12), right or not.
func record(kind byte, time int, key string, number int, body string) string {
	out := binary.BigEndian.AppendUint64([]byte{kind}, uint64(time))
	out = append(append(out, byte(len(key))), key...)
	out = binary.BigEndian.AppendUint32(out, uint32(number))
	return framed(string(out) + body)
}

// framed puts the length ahead of a payload and the check behind it.
func framed(payload string) string {
	hash := fnv.New32a()
	hash.Write([]byte(payload))
	out := binary.BigEndian.AppendUint16(nil, uint16(len(payload)))
	out = append(out, payload...)
	return string(hash.Sum(out))
}

// openModel follows a journal by asking a model for what each record says: it holds if the model writes the very same record of it.
func openModel(log string) *model {
	m := newModel()
	for {
		request, time, ok := requestOf(log[len(m.log):])
		if !ok || time < m.time || time > api.MaxClock {
			return m
		}
		try := m.clone()
		try.time = time
		try.do(request)
		if try.log == m.log || !strings.HasPrefix(log, try.log) {
			return m
		}
		m = try
	}
}

// requestOf gives the request that a record could be of, and its time; false if there is none.
func requestOf(log string) (string, int, bool) {
	if len(log) < 2 {
		return "", 0, false
	}
	size := int(binary.BigEndian.Uint16([]byte(log)))
	if len(log) < 2+size || size < 10 {
		return "", 0, false
	}
	payload := []byte(log[2 : 2+size])
	time, rest := int(binary.BigEndian.Uint64(payload[1:])), payload[10:]
	keySize := int(payload[9])
	if len(rest) < keySize+4 {
		return "", 0, false
	}
	key, number, body := rest[:keySize], binary.BigEndian.Uint32(rest[keySize:]), rest[keySize+4:]
	switch payload[0] {
	case 1:
		return fmt.Sprintf("PUT /%s\r\n\r\n%s", key, body), time, true
	case 2:
		return fmt.Sprintf("DELETE /%s\r\n\r\n", key), time, true
	}
	return fmt.Sprintf("DELETE /%s?v=%d\r\n\r\n", key, number), time, true
}

func (m *model) clone() *model {
	out := &model{time: m.time, keys: map[string]*modelKey{}, log: m.log}
	for name, key := range m.keys {
		out.keys[name] = &modelKey{given: key.given, versions: maps.Clone(key.versions)}
	}
	return out
}

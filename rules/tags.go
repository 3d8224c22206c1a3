package rules

import (
	"strconv"
	"strings"

	"vault/api"
)

const blanks = " \t"

// The numbers of the FNV-1a hash of 64 bits.
const (
	hashStart  uint64 = 14695981039346656037
	hashFactor uint64 = 1099511628211
	hashDigits        = 16
)

// Tags reads a list of tags (P4).
func Tags(text string) (api.Tags, bool) {
	rest := strings.Trim(text, blanks)
	if rest == "*" {
		return api.Tags{Any: true}, true
	}
	var list []api.Tag
	for {
		tag, behind, ok := cutTag(rest)
		if !ok {
			return api.Tags{}, false
		}
		list = append(list, tag)
		if behind == "" {
			return api.Tags{List: list}, true
		}
		rest, ok = cutComma(behind)
		if !ok {
			return api.Tags{}, false
		}
	}
}

// cutTag reads the tag at the front of a text, and gives what stands behind it.
func cutTag(text string) (tag api.Tag, behind string, ok bool) {
	quoted, weak := strings.CutPrefix(text, "W/")
	inner, opened := strings.CutPrefix(quoted, `"`)
	if !opened {
		return api.Tag{}, "", false
	}
	// The text ends at the next quote and not at a comma, which may stand within it.
	name, behind, closed := strings.Cut(inner, `"`)
	if !closed || !isTagText(name) {
		return api.Tag{}, "", false
	}
	// A clone, as a piece of the text would keep all of it in memory.
	return api.Tag{Weak: weak, Text: strings.Clone(name)}, behind, true
}

func cutComma(text string) (behind string, ok bool) {
	behind, ok = strings.CutPrefix(strings.TrimLeft(text, blanks), ",")
	return strings.TrimLeft(behind, blanks), ok
}

func isTagText(name string) bool {
	for i := range len(name) {
		if !isTagByte(name[i]) {
			return false
		}
	}
	return true
}

func isTagByte(c byte) bool {
	return c == 33 || c >= 35 && c <= 126 || c >= 128
}

// Tag is the tag of a body (P4).
func Tag(body string) string {
	hash := hashStart
	for i := range len(body) {
		hash = (hash ^ uint64(body[i])) * hashFactor
	}
	digits := strconv.FormatUint(hash, 16)
	return strings.Repeat("0", hashDigits-len(digits)) + digits
}

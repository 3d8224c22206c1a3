package wire

import (
	"strings"

	"vault/api"
)

// The greatest number of digits that a version's number has in a target.
const maxDigits = 9

// Kind is what a target names.
type Kind int

const (
	Keys     Kind = iota // the list of keys
	Key                  // a key
	Version              // one version of a key
	Versions             // all versions of a key
)

// Target is what a request is about.
type Target struct {
	Kind   Kind
	Key    string // of Keys: the one behind which the list begins; the empty one is ahead of all
	Number int    // of Version
}

func readTarget(text string) (Target, bool) {
	path, ok := strings.CutPrefix(text, "/")
	if !ok {
		return Target{}, false
	}
	if path == "" {
		return Target{Kind: Keys}, true
	}
	if after, ok := strings.CutPrefix(path, "?after="); ok {
		return Target{Kind: Keys, Key: after}, IsKey(after)
	}
	key, query, asked := strings.Cut(path, "?")
	if !IsKey(key) {
		return Target{}, false
	}
	if !asked {
		return Target{Kind: Key, Key: key}, true
	}
	return readQuery(key, query)
}

// readQuery reads what stands behind a key and a question mark.
func readQuery(key, query string) (Target, bool) {
	if query == "versions" {
		return Target{Kind: Versions, Key: key}, true
	}
	digits, ok := strings.CutPrefix(query, "v=")
	if !ok {
		return Target{}, false
	}
	number, ok := readNumber(digits)
	return Target{Kind: Version, Key: key, Number: number}, ok
}

func readNumber(digits string) (int, bool) {
	if digits == "" || len(digits) > maxDigits || digits[0] == '0' {
		return 0, false
	}
	number := 0
	for i := range len(digits) {
		if !isDigit(digits[i]) {
			return 0, false
		}
		number = number*10 + int(digits[i]-'0')
	}
	return number, true
}

// IsKey tells whether a text is of the form of a key.
func IsKey(text string) bool {
	if text == "" || len(text) > api.MaxKey {
		return false
	}
	for i := range len(text) {
		if !isKeyByte(text[i]) {
			return false
		}
	}
	return true
}

func isKeyByte(c byte) bool {
	return isNameByte(c) || c == '.' || c == '_'
}

// isNameByte tells whether a byte may stand in the name of a field.
func isNameByte(c byte) bool {
	return c >= 'a' && c <= 'z' || c >= 'A' && c <= 'Z' || isDigit(c) || c == '-'
}

func isDigit(c byte) bool {
	return c >= '0' && c <= '9'
}

package wire

import (
	"strings"

	"vault/api"
	"vault/rules"
)

// The fields that say something.
const (
	matchField = iota
	noneField
	sinceField
	unlessField
	fieldCount
)

// conditions gathers what a request's fields say.
type conditions struct {
	ask api.Ask
	// What ask has does not tell which fields stood there: a value that is no date leaves nothing in it.
	seen [fieldCount]bool
}

// readFields reads fields and the empty line behind them, and gives what stands behind that.
func readFields(text string) (ask api.Ask, body string, ok bool) {
	var c conditions
	for {
		line, behind, ended := strings.Cut(text, crlf)
		if !ended {
			return api.Ask{}, "", false
		}
		if line == "" {
			return c.ask, behind, true
		}
		if !c.takeLine(line) {
			return api.Ask{}, "", false
		}
		text = behind
	}
}

func (c *conditions) takeLine(line string) bool {
	name, value, ok := strings.Cut(line, ":")
	// Half a CRLF ends no line, but may not stand in a value either.
	if !ok || !isName(name) || strings.ContainsAny(value, crlf) {
		return false
	}
	return c.take(name, strings.Trim(value, blanks))
}

// take tells false of what makes a request bad: a field that stood there already, or tags that are none.
func (c *conditions) take(name, value string) bool {
	q := &c.ask
	switch strings.ToLower(name) {
	case "if-match":
		q.Match, q.HasMatch = rules.Tags(value)
		return c.isFirst(matchField) && q.HasMatch
	case "if-none-match":
		q.None, q.HasNone = rules.Tags(value)
		return c.isFirst(noneField) && q.HasNone
	case "if-modified-since":
		q.Since, q.HasSince = rules.Date(value)
		return c.isFirst(sinceField)
	case "if-unmodified-since":
		q.Unless, q.HasUnless = rules.Date(value)
		return c.isFirst(unlessField)
	}
	return true
}

func (c *conditions) isFirst(field int) bool {
	first := !c.seen[field]
	c.seen[field] = true
	return first
}

func isName(text string) bool {
	for i := range len(text) {
		if !isNameByte(text[i]) {
			return false
		}
	}
	return text != ""
}

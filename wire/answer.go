package wire

import (
	"strconv"
	"strings"
)

// Answer is what is answered to a request.
type Answer struct {
	Told   int
	Fields []Field
	Body   string
}

// Field is a line of an answer's head.
type Field struct {
	Name, Value string
}

// Text is the answer in bytes (P8).
func (a Answer) Text() string {
	var out strings.Builder
	out.WriteString(strconv.Itoa(a.Told))
	out.WriteString(crlf)
	for _, f := range a.Fields {
		out.WriteString(f.Name + ": " + f.Value + crlf)
	}
	out.WriteString(crlf)
	out.WriteString(a.Body)
	return out.String()
}

// Package wire has the bytes of requests and answers: it reads the one (P7) and writes the other (P8).
package wire

import (
	"strings"

	"vault/api"
)

const (
	crlf   = "\r\n"
	blanks = " \t"
)

// Method is what a request wants to be done.
type Method int

const (
	Get Method = iota
	Head
	Put
	Delete
)

// Request is what a request says. Its texts are pieces of what was read: whoever keeps one clones it.
type Request struct {
	Method Method
	Target Target
	Ask    api.Ask // the conditions; what there is, the store knows
	Body   string
}

// Read gives a request that the store is to be asked, and 0; or what is told without asking it (P8).
func Read(text string) (Request, int) {
	// Ahead of all else, so that no more than this is ever looked at.
	if len(text) > api.MaxRequest {
		return Request{}, api.TooLong
	}
	q, ok := parse(text)
	if !ok || q.Body != "" && !q.putsKey() {
		return Request{}, api.Bad
	}
	if len(q.Body) > api.MaxBody {
		return Request{}, api.TooLong
	}
	if !q.methodFits() {
		return Request{}, api.NotFor
	}
	return q, 0
}

func parse(text string) (Request, bool) {
	line, rest, ok := strings.Cut(text, crlf)
	if !ok {
		return Request{}, false
	}
	methodText, targetText, ok := strings.Cut(line, " ")
	if !ok {
		return Request{}, false
	}
	method, ok := readMethod(methodText)
	if !ok {
		return Request{}, false
	}
	target, ok := readTarget(targetText)
	if !ok {
		return Request{}, false
	}
	ask, body, ok := readFields(rest)
	if !ok {
		return Request{}, false
	}
	ask.Write = method == Put || method == Delete
	return Request{Method: method, Target: target, Ask: ask, Body: body}, true
}

func readMethod(text string) (Method, bool) {
	switch text {
	case "GET":
		return Get, true
	case "HEAD":
		return Head, true
	case "PUT":
		return Put, true
	case "DELETE":
		return Delete, true
	}
	return 0, false
}

func (q Request) putsKey() bool {
	return q.Method == Put && q.Target.Kind == Key
}

func (q Request) methodFits() bool {
	switch q.Method {
	case Get:
		return true
	case Put:
		return q.putsKey()
	}
	return q.Target.Kind == Key || q.Target.Kind == Version
}

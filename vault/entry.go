package vault

import (
	"slices"
	"strconv"
	"strings"

	"vault/api"
	"vault/journal"
)

// version is one version of a key, or a mark.
type version struct {
	number int
	time   int
	mark   bool
	body   string
}

// entry is a key with its versions.
type entry struct {
	key      string
	last     int       // the number that was given last: it is not given again, even if its version is gone
	versions []version // in rising order of their numbers
}

// isKnown holds of a key whose versions are all gone, too.
func (e *entry) isKnown() bool { return e.last > 0 }

func (e *entry) isFull() bool { return len(e.versions) >= api.MaxVersions }

// current gives the current version; false if the key has nothing current.
func (e *entry) current() (version, bool) {
	if len(e.versions) == 0 {
		return version{}, false
	}
	v := e.versions[len(e.versions)-1]
	return v, !v.mark
}

// numbered gives the version of a number; false if it is not there, or a mark.
func (e *entry) numbered(number int) (version, bool) {
	place := e.place(number)
	if place < 0 {
		return version{}, false
	}
	v := e.versions[place]
	return v, !v.mark
}

// place tells where a version stands, mark or not; -1 if it is not there.
func (e *entry) place(number int) int {
	return slices.IndexFunc(e.versions, func(v version) bool { return v.number == number })
}

// next is the number that the next version is given.
func (e *entry) next() int { return e.last + 1 }

// push puts the version, or mark, of a record behind all others.
func (e *entry) push(r journal.Record) {
	e.last = r.Number
	e.versions = append(e.versions, version{
		number: r.Number,
		time:   r.Time,
		mark:   r.Kind == journal.Mark,
		body:   strings.Clone(r.Body),
	})
}

// remove takes a version away that is there.
func (e *entry) remove(number int) {
	place := e.place(number)
	e.versions = slices.Delete(e.versions, place, place+1)
}

// line is what ?versions tells of a version.
func (v version) line() string {
	what := "gone"
	if !v.mark {
		what = quotedTag(v.body)
	}
	return strconv.Itoa(v.number) + " " + strconv.Itoa(v.time) + " " + what + "\n"
}

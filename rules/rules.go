// Package rules: what hangs on a request alone: dates, tags, conditions: see DOC.md.
package rules

import "vault/api"

// Judge weighs conditions (P5): 0 if the request is to go on, else what it is told.
func Judge(q api.Ask) int {
	if q.HasMatch && !matches(q) {
		return api.Failed
	}
	if !q.HasMatch && q.HasUnless && q.There && q.Time > q.Unless {
		return api.Failed
	}
	if q.HasNone && excluded(q) {
		if q.Write {
			return api.Failed
		}
		return api.Same
	}
	if !q.HasNone && q.HasSince && !q.Write && q.There && q.Time <= q.Since {
		return api.Same
	}
	return 0
}

// matches holds a weak tag for no match: it does not vouch for the very bytes, so nobody may write by it.
func matches(q api.Ask) bool {
	if !q.There {
		return false
	}
	if q.Match.Any {
		return true
	}
	for _, tag := range q.Match.List {
		if !tag.Weak && tag.Text == q.Tag {
			return true
		}
	}
	return false
}

// excluded counts weak tags too: whoever has something as good needs no other copy.
func excluded(q api.Ask) bool {
	if !q.There {
		return false
	}
	if q.None.Any {
		return true
	}
	for _, tag := range q.None.List {
		if tag.Text == q.Tag {
			return true
		}
	}
	return false
}

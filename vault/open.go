package vault

import "vault/journal"

// past is the book of what was done already: the time is that of its record.
type past struct {
	*common
}

func (p past) enter(r journal.Record) int {
	p.pass(r.Time - p.now())
	return p.common.enter(r)
}

// replay does again what a journal says, as far as it can be followed, and tells how many bytes that took.
func (s *Store) replay(log string) int {
	rest := log
	for {
		r, behind, ok := journal.Cut(rest)
		if !ok || !s.redo(r) {
			return len(log) - len(rest)
		}
		rest = behind
	}
}

// redo does again what a record says; false, and nothing is done, if a store in this state could not have done it.
func (s *Store) redo(r journal.Record) bool {
	t := s.stripeOf(r.Key)
	t.lock.Lock()
	defer t.lock.Unlock()
	e := t.find(r.Key)
	if r.Time < s.common.now() || r.Kind != journal.Removal && r.Number != e.next() {
		return false
	}
	_, done := t.change(e, r, past{&s.common})
	return done
}

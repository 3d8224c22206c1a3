package vault

import (
	"vault/api"
	"vault/journal"
)

// book is what a change has to do with that belongs to no stripe.
type book interface {
	// admit counts one more key as known; false if there is no room for it.
	admit() bool
	// enter takes the record of what is done now, and tells what time it is.
	enter(r journal.Record) int
}

// change does to a key what a record says, but at the time that the book tells; it gives what is told of it (P9), and false if it could not be done. Whoever calls it holds the stripe's lock.
func (t *stripe) change(e *entry, r journal.Record, b book) (int, bool) {
	if told := e.obstacle(r); told != 0 {
		return told, false
	}
	if !e.isKnown() && !b.admit() {
		return api.NoRoom, false
	}
	told := e.success(r.Kind)
	r.Time = b.enter(r)
	t.apply(e, r)
	return told, true
}

// obstacle tells what, in the key itself, a change fails by; 0 if nothing.
func (e *entry) obstacle(r journal.Record) int {
	if r.Kind == journal.Removal {
		if e.place(r.Number) < 0 {
			return api.NotThere
		}
		return 0
	}
	if _, there := e.current(); r.Kind == journal.Mark && !there {
		return api.NotThere
	}
	if e.isFull() {
		return api.NoRoom
	}
	return 0
}

// success is what is told of a change that is about to be done.
func (e *entry) success(kind journal.Kind) int {
	if kind != journal.Put {
		return api.Done
	}
	if _, there := e.current(); there {
		return api.Fine
	}
	return api.Made
}

func (t *stripe) apply(e *entry, r journal.Record) {
	if r.Kind == journal.Removal {
		e.remove(r.Number)
		return
	}
	if !e.isKnown() {
		t.insert(e)
	}
	e.push(r)
}

package vault

import (
	"slices"
	"strings"
	"sync"
)

// stripe holds the keys that are dealt to it.
type stripe struct {
	lock    sync.Mutex
	entries []*entry // those that are known, in rising order of their keys
}

func (s *Store) stripeOf(key string) *stripe {
	return &s.stripes[s.stripeNumber(key)]
}

// stripeNumber deals a key to a stripe.
func (s *Store) stripeNumber(key string) int {
	var hash uint32
	for i := range len(key) {
		hash = hash*31 + uint32(key[i])
	}
	return int(hash % uint32(len(s.stripes)))
}

// place tells where a key stands, or would stand.
func (t *stripe) place(key string) (int, bool) {
	return slices.BinarySearchFunc(t.entries, key, func(e *entry, key string) int {
		return strings.Compare(e.key, key)
	})
}

// find gives the entry of a key: of one that is not known, an entry without versions that the stripe does not hold.
func (t *stripe) find(key string) *entry {
	if place, ok := t.place(key); ok {
		return t.entries[place]
	}
	return &entry{key: key}
}

// insert lets the stripe hold an entry that it did not find.
func (t *stripe) insert(e *entry) {
	e.key = strings.Clone(e.key)
	place, _ := t.place(e.key)
	t.entries = slices.Insert(t.entries, place, e)
}

// behind gives the entries that stand behind a key.
func (t *stripe) behind(key string) []*entry {
	place, ok := t.place(key)
	if ok {
		place++
	}
	return t.entries[place:]
}

package vault

import (
	"sync"

	"vault/api"
	"vault/journal"
)

// common is what belongs to no stripe. Its lock is taken last: whoever holds it takes no other.
type common struct {
	lock    sync.Mutex
	time    int
	keys    int    // how many are known
	journal []byte // the records of all that was done
}

func (c *common) now() int {
	c.lock.Lock()
	defer c.lock.Unlock()
	return c.time
}

func (c *common) pass(seconds int) api.Errno {
	c.lock.Lock()
	defer c.lock.Unlock()
	// The sum may be too great for an int; the difference is not.
	if seconds < 0 || seconds > api.MaxClock-c.time {
		return api.ErrArg
	}
	c.time += seconds
	return api.OK
}

// admit counts one more key as known; false if there is no room for it.
func (c *common) admit() bool {
	c.lock.Lock()
	defer c.lock.Unlock()
	if c.keys == api.MaxKeys {
		return false
	}
	c.keys++
	return true
}

// enter reads the time and writes the record under one lock: if time could go by between the two, a record might come to stand behind one of a later time, and Open would not follow.
func (c *common) enter(r journal.Record) int {
	c.lock.Lock()
	defer c.lock.Unlock()
	r.Time = c.time
	c.journal = append(c.journal, r.Text()...)
	return c.time
}

func (c *common) log() string {
	c.lock.Lock()
	defer c.lock.Unlock()
	return string(c.journal)
}

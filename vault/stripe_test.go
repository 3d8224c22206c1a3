package vault

import (
	"slices"
	"testing"

	"vault/api"
)

// TestKeysAreDealt: no stripe is left without keys, and each has its own in order.
func TestKeysAreDealt(t *testing.T) {
	for stripes := 1; stripes <= api.MaxStripes; stripes++ {
		s := newStore(t, stripes)
		putAll(t, s, manyKeys(api.MaxKeys))
		for i := range s.stripes {
			var keys []string
			for _, e := range s.stripes[i].entries {
				keys = append(keys, e.key)
			}
			if len(keys) == 0 || !slices.IsSorted(keys) {
				t.Errorf("stripe %d of %d has the keys %q", i, stripes, keys)
			}
		}
	}
}

// TestLocksAreGivenBack: whatever was answered, no lock is left taken.
func TestLocksAreGivenBack(t *testing.T) {
	s := newStore(t, 3)
	for _, request := range []string{"PUT /k||a", "PUT /k|If-Match: \"x\"||", "GET /k||", "HEAD /l||", "GET /k?versions||", "GET /||", "GET /?after=k||", "DELETE /k||", "DELETE /k||", "DELETE /k?v=1||", "DELETE /k?v=1||", "PUT /||", "x"} {
		s.Do(crlfs(request))
		s.Tick(-1)
		s.Batch([]string{crlfs(request), "GET /\r\n\r\n", crlfs(request)}, 2)
		s.Batch(nil, 0)
		s.Log()
		if !s.turn.TryLock() {
			t.Fatalf("after %q the lock of batches is taken", request)
		}
		s.turn.Unlock()
		for i := range s.stripes {
			if !s.stripes[i].lock.TryLock() {
				t.Fatalf("after %q the lock of stripe %d is taken", request, i)
			}
			s.stripes[i].lock.Unlock()
		}
		if !s.common.lock.TryLock() {
			t.Fatalf("after %q the lock of what is common is taken", request)
		}
		s.common.lock.Unlock()
	}
}

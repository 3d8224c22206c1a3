package vault

import (
	"strings"

	"vault/api"
	"vault/merge"
	"vault/wire"
)

// listKeys answers with the keys behind one (P10). All stripes are locked at once, and always in the same order, so that the list is of one moment and no two lists wait for each other.
func (s *Store) listKeys(after string) wire.Answer {
	var lists [][]*entry
	for i := range s.stripes {
		t := &s.stripes[i]
		t.lock.Lock()
		defer t.lock.Unlock()
		lists = append(lists, t.behind(after))
	}
	return tellKeys(lists)
}

func tellKeys(lists [][]*entry) wire.Answer {
	a := wire.Answer{Told: api.Fine}
	var lines strings.Builder
	listed, last := 0, ""
	for e := range merge.Lists(lists, isAhead) {
		v, there := e.current()
		if !there {
			continue
		}
		if listed == api.MaxList {
			a.Fields = []wire.Field{{Name: "More", Value: last}}
			break
		}
		lines.WriteString(e.key + " " + quotedTag(v.body) + "\n")
		listed, last = listed+1, e.key
	}
	a.Body = lines.String()
	return a
}

func isAhead(e, other *entry) bool { return e.key < other.key }

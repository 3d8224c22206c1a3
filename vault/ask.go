package vault

import (
	"slices"
	"strconv"
	"strings"

	"vault/api"
	"vault/rules"
	"vault/wire"
)

// askKey answers what is asked of one key (P9, and ?versions of P10). The stripe's lock is held from the weighing of conditions to the change, so that nothing comes between them. What admit tells decides about a key that is not known yet.
func (s *Store) askKey(q wire.Request, admit func() bool) wire.Answer {
	t := s.stripeOf(q.Target.Key)
	t.lock.Lock()
	defer t.lock.Unlock()
	e := t.find(q.Target.Key)
	if q.Target.Kind == wire.Versions {
		return tellVersions(e)
	}
	v, there := aim(e, q.Target)
	if told := weigh(q.Ask, v, there); told != 0 {
		return refuse(told)
	}
	switch q.Method {
	case wire.Put:
		return s.put(t, e, q.Body, admit)
	case wire.Delete:
		if q.Target.Kind == wire.Version {
			return removeVersion(e, q.Target.Number)
		}
		return s.deleteKey(e)
	}
	if !there {
		return refuse(api.NotThere)
	}
	return tellVersion(v, q.Method)
}

// aim gives the version that a request is about; false if there is nothing.
func aim(e *entry, target wire.Target) (version, bool) {
	if target.Kind == wire.Version {
		return e.numbered(target.Number)
	}
	return e.current()
}

func weigh(ask api.Ask, v version, there bool) int {
	if there {
		ask.There, ask.Tag, ask.Time = true, rules.Tag(v.body), v.time
	}
	return rules.Judge(ask)
}

func (s *Store) put(t *stripe, e *entry, body string, admit func() bool) wire.Answer {
	if e.isFull() || !e.isKnown() && !admit() {
		return refuse(api.NoRoom)
	}
	if !e.isKnown() {
		t.insert(e)
	}
	told := api.Made
	if _, there := e.current(); there {
		told = api.Fine
	}
	number := e.add(s.common.now(), body)
	return answer(told, tagField(body), numberField(number))
}

func (s *Store) deleteKey(e *entry) wire.Answer {
	if _, there := e.current(); !there {
		return refuse(api.NotThere)
	}
	if e.isFull() {
		return refuse(api.NoRoom)
	}
	return answer(api.Done, numberField(e.addMark(s.common.now())))
}

func removeVersion(e *entry, number int) wire.Answer {
	if !e.remove(number) {
		return refuse(api.NotThere)
	}
	return answer(api.Done, numberField(number))
}

func tellVersion(v version, method wire.Method) wire.Answer {
	a := answer(api.Fine, tagField(v.body), wire.Field{Name: "Last-Modified", Value: rules.Stamp(v.time)}, numberField(v.number))
	if method == wire.Get {
		a.Body = v.body
	}
	return a
}

func tellVersions(e *entry) wire.Answer {
	if len(e.versions) == 0 {
		return refuse(api.NotThere)
	}
	var lines strings.Builder
	for _, v := range slices.Backward(e.versions) {
		lines.WriteString(v.line())
	}
	return wire.Answer{Told: api.Fine, Body: lines.String()}
}

// refuse is an answer that tells nothing more.
func refuse(told int) wire.Answer { return wire.Answer{Told: told} }

func answer(told int, fields ...wire.Field) wire.Answer {
	return wire.Answer{Told: told, Fields: fields}
}

func tagField(body string) wire.Field {
	return wire.Field{Name: "ETag", Value: quotedTag(body)}
}

func numberField(number int) wire.Field {
	return wire.Field{Name: "Version", Value: strconv.Itoa(number)}
}

func quotedTag(body string) string {
	return `"` + rules.Tag(body) + `"`
}

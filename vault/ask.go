package vault

import (
	"slices"
	"strconv"
	"strings"

	"vault/api"
	"vault/journal"
	"vault/rules"
	"vault/wire"
)

// askKey answers what is asked of one key (P9, and ?versions of P10). The stripe's lock is held from the weighing of conditions to the change and its record, so that nothing comes between them.
func (s *Store) askKey(q wire.Request, b book) wire.Answer {
	t := s.stripeOf(q.Target.Key)
	t.lock.Lock()
	defer t.lock.Unlock()
	e := t.find(q.Target.Key)
	if q.Target.Kind == wire.Versions {
		return tellVersions(e)
	}
	v, there := aim(e, q.Target)
	if told := weigh(q.Ask, v, there); told != 0 {
		return refuse(told)
	}
	if q.Ask.Write {
		return t.changeKey(e, wanted(q, e), b)
	}
	if !there {
		return refuse(api.NotThere)
	}
	return tellVersion(v, q.Method)
}

// aim gives the version that a request is about; false if there is nothing.
func aim(e *entry, target wire.Target) (version, bool) {
	if target.Kind == wire.Version {
		return e.numbered(target.Number)
	}
	return e.current()
}

func weigh(ask api.Ask, v version, there bool) int {
	if there {
		ask.There, ask.Tag, ask.Time = true, rules.Tag(v.body), v.time
	}
	return rules.Judge(ask)
}

// wanted is the record of what a request wants to be done.
func wanted(q wire.Request, e *entry) journal.Record {
	switch {
	case q.Method == wire.Put:
		return journal.Record{Kind: journal.Put, Key: e.key, Number: e.next(), Body: q.Body}
	case q.Target.Kind == wire.Version:
		return journal.Record{Kind: journal.Removal, Key: e.key, Number: q.Target.Number}
	}
	return journal.Record{Kind: journal.Mark, Key: e.key, Number: e.next()}
}

func (t *stripe) changeKey(e *entry, r journal.Record, b book) wire.Answer {
	told, done := t.change(e, r, b)
	if !done {
		return refuse(told)
	}
	if r.Kind == journal.Put {
		return answer(told, tagField(r.Body), numberField(r.Number))
	}
	return answer(told, numberField(r.Number))
}

func tellVersion(v version, method wire.Method) wire.Answer {
	a := answer(api.Fine, tagField(v.body), wire.Field{Name: "Last-Modified", Value: rules.Stamp(v.time)}, numberField(v.number))
	if method == wire.Get {
		a.Body = v.body
	}
	return a
}

func tellVersions(e *entry) wire.Answer {
	if len(e.versions) == 0 {
		return refuse(api.NotThere)
	}
	var lines strings.Builder
	for _, v := range slices.Backward(e.versions) {
		lines.WriteString(v.line())
	}
	return wire.Answer{Told: api.Fine, Body: lines.String()}
}

// refuse is an answer that tells nothing more.
func refuse(told int) wire.Answer { return wire.Answer{Told: told} }

func answer(told int, fields ...wire.Field) wire.Answer {
	return wire.Answer{Told: told, Fields: fields}
}

func tagField(body string) wire.Field {
	return wire.Field{Name: "ETag", Value: quotedTag(body)}
}

func numberField(number int) wire.Field {
	return wire.Field{Name: "Version", Value: strconv.Itoa(number)}
}

func quotedTag(body string) string {
	return `"` + rules.Tag(body) + `"`
}

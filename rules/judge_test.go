package rules

import (
	"fmt"
	"testing"

	"vault/api"
)

// What there is in the tests of Judge, where something is: the tag a, of the time 5.
func asked(q api.Ask, write, there bool) api.Ask {
	q.Write = write
	if there {
		q.There, q.Tag, q.Time = true, "a", 5
	}
	return q
}

var (
	anyTag   = api.Tags{Any: true}
	itsTag   = listOf(api.Tag{Text: "a"})
	lastTag  = listOf(api.Tag{Text: "b"}, api.Tag{Weak: true, Text: "a"}, api.Tag{Text: "a"})
	weakTag  = listOf(api.Tag{Weak: true, Text: "a"})
	otherTag = listOf(api.Tag{Text: "A"}, api.Tag{Text: ""}, api.Tag{Text: "aa"}, api.Tag{Weak: true, Text: "b"})
	anyOther = api.Tags{Any: true, List: []api.Tag{{Text: "b"}}}
)

const (
	goOn   = 0
	same   = api.Same
	failed = api.Failed
)

func TestJudge(t *testing.T) {
	for _, c := range []struct {
		name                string
		ask                 api.Ask
		read, write         int // where something is there
		readNone, writeNone int // where nothing is
	}{
		{"no condition", api.Ask{}, goOn, goOn, goOn, goOn},
		{"left out of account", api.Ask{Match: otherTag, None: anyTag, Since: 9, Unless: 1}, goOn, goOn, goOn, goOn},

		{"match any", api.Ask{HasMatch: true, Match: anyTag}, goOn, goOn, failed, failed},
		{"match any beside a list", api.Ask{HasMatch: true, Match: anyOther}, goOn, goOn, failed, failed},
		{"match its tag", api.Ask{HasMatch: true, Match: itsTag}, goOn, goOn, failed, failed},
		{"match the last tag", api.Ask{HasMatch: true, Match: lastTag}, goOn, goOn, failed, failed},
		{"match a weak tag", api.Ask{HasMatch: true, Match: weakTag}, failed, failed, failed, failed},
		{"match other tags", api.Ask{HasMatch: true, Match: otherTag}, failed, failed, failed, failed},
		{"match an empty list", api.Ask{HasMatch: true}, failed, failed, failed, failed},

		{"unless later", api.Ask{HasUnless: true, Unless: 6}, goOn, goOn, goOn, goOn},
		{"unless then", api.Ask{HasUnless: true, Unless: 5}, goOn, goOn, goOn, goOn},
		{"unless earlier", api.Ask{HasUnless: true, Unless: 4}, failed, failed, goOn, goOn},
		{"unless the least", api.Ask{HasUnless: true, Unless: -1 << 63}, failed, failed, goOn, goOn},
		{"unless the greatest", api.Ask{HasUnless: true, Unless: 1<<63 - 1}, goOn, goOn, goOn, goOn},
		{"unless earlier behind a match", api.Ask{HasMatch: true, Match: itsTag, HasUnless: true, Unless: 4}, goOn, goOn, failed, failed},
		{"unless later behind no match", api.Ask{HasMatch: true, Match: otherTag, HasUnless: true, Unless: 6}, failed, failed, failed, failed},

		{"none of any", api.Ask{HasNone: true, None: anyTag}, same, failed, goOn, goOn},
		{"none of any beside a list", api.Ask{HasNone: true, None: anyOther}, same, failed, goOn, goOn},
		{"none of its tag", api.Ask{HasNone: true, None: itsTag}, same, failed, goOn, goOn},
		{"none of the last tag", api.Ask{HasNone: true, None: lastTag}, same, failed, goOn, goOn},
		{"none of a weak tag", api.Ask{HasNone: true, None: weakTag}, same, failed, goOn, goOn},
		{"none of other tags", api.Ask{HasNone: true, None: otherTag}, goOn, goOn, goOn, goOn},
		{"none of an empty list", api.Ask{HasNone: true}, goOn, goOn, goOn, goOn},
		{"none behind a match", api.Ask{HasMatch: true, Match: itsTag, HasNone: true, None: itsTag}, same, failed, failed, failed},
		{"none behind no match", api.Ask{HasMatch: true, Match: weakTag, HasNone: true, None: itsTag}, failed, failed, failed, failed},
		{"none behind unless", api.Ask{HasUnless: true, Unless: 5, HasNone: true, None: anyTag}, same, failed, goOn, goOn},
		{"none behind unless that fails", api.Ask{HasUnless: true, Unless: 4, HasNone: true, None: anyTag}, failed, failed, goOn, goOn},

		{"since later", api.Ask{HasSince: true, Since: 6}, same, goOn, goOn, goOn},
		{"since then", api.Ask{HasSince: true, Since: 5}, same, goOn, goOn, goOn},
		{"since earlier", api.Ask{HasSince: true, Since: 4}, goOn, goOn, goOn, goOn},
		{"since the least", api.Ask{HasSince: true, Since: -1 << 63}, goOn, goOn, goOn, goOn},
		{"since the greatest", api.Ask{HasSince: true, Since: 1<<63 - 1}, same, goOn, goOn, goOn},
		{"since behind a match", api.Ask{HasMatch: true, Match: itsTag, HasSince: true, Since: 5}, same, goOn, failed, failed},
		{"since behind no match", api.Ask{HasMatch: true, Match: otherTag, HasSince: true, Since: 5}, failed, failed, failed, failed},
		{"since behind unless", api.Ask{HasUnless: true, Unless: 5, HasSince: true, Since: 5}, same, goOn, goOn, goOn},
		{"since behind unless that fails", api.Ask{HasUnless: true, Unless: 4, HasSince: true, Since: 5}, failed, failed, goOn, goOn},
		{"since behind none of others", api.Ask{HasNone: true, None: otherTag, HasSince: true, Since: 5}, goOn, goOn, goOn, goOn},
		{"since behind none of its tag", api.Ask{HasNone: true, None: itsTag, HasSince: true, Since: 4}, same, failed, goOn, goOn},
	} {
		got := []int{Judge(asked(c.ask, false, true)), Judge(asked(c.ask, true, true)), Judge(asked(c.ask, false, false)), Judge(asked(c.ask, true, false))}
		want := []int{c.read, c.write, c.readNone, c.writeNone}
		if fmt.Sprint(got) != fmt.Sprint(want) {
			t.Errorf("P5: %s: %v, want %v", c.name, got, want)
		}
	}
}

// Where nothing is there, its tag and time count for nothing, whatever they are.
func TestJudgeOfNothing(t *testing.T) {
	for _, write := range []bool{false, true} {
		q := api.Ask{Write: write, Tag: "a", Time: 5, HasNone: true, None: itsTag, HasUnless: true, Unless: 4}
		if told := Judge(q); told != goOn {
			t.Errorf("P5: none and unless of nothing: %d", told)
		}
		q = api.Ask{Write: write, Tag: "a", Time: 5, HasSince: true, Since: 5}
		if told := Judge(q); told != goOn {
			t.Errorf("P5: since of nothing: %d", told)
		}
		q = api.Ask{Write: write, Tag: "a", Time: 5, HasMatch: true, Match: itsTag}
		if told := Judge(q); told != failed {
			t.Errorf("P5: match of nothing: %d", told)
		}
	}
}

// A tag without text is one like others.
func TestJudgeOfTagWithoutText(t *testing.T) {
	q := api.Ask{There: true, HasMatch: true, Match: listOf(api.Tag{})}
	if told := Judge(q); told != goOn {
		t.Errorf("P5: match of a tag without text: %d", told)
	}
	q = api.Ask{There: true, HasNone: true, None: listOf(api.Tag{})}
	if told := Judge(q); told != same {
		t.Errorf("P5: none of a tag without text: %d", told)
	}
}

// ruleByRule puts each of P5's rules alone, in their order.
func ruleByRule(q api.Ask) int {
	var parts []api.Ask
	alone := api.Ask{Write: q.Write, There: q.There, Tag: q.Tag, Time: q.Time}
	if q.HasMatch {
		part := alone
		part.HasMatch, part.Match = true, q.Match
		parts = append(parts, part)
	} else {
		part := alone
		part.HasUnless, part.Unless = q.HasUnless, q.Unless
		parts = append(parts, part)
	}
	if q.HasNone {
		part := alone
		part.HasNone, part.None = true, q.None
		parts = append(parts, part)
	} else {
		part := alone
		part.HasSince, part.Since = q.HasSince, q.Since
		parts = append(parts, part)
	}
	for _, part := range parts {
		if told := Judge(part); told != 0 {
			return told
		}
	}
	return 0
}

// The first rule that tells something tells, in every mix of the conditions.
func TestJudgeTellsTheFirst(t *testing.T) {
	lists := []api.Tags{{}, anyTag, itsTag, weakTag, otherTag}
	for mix := range 64 {
		bit := func(n int) bool { return mix>>n&1 == 1 }
		for _, match := range lists {
			for _, none := range lists {
				for since := 4; since <= 6; since++ {
					for unless := 4; unless <= 6; unless++ {
						q := asked(api.Ask{HasMatch: bit(0), Match: match, HasNone: bit(1), None: none, HasSince: bit(2), Since: since, HasUnless: bit(3), Unless: unless}, bit(4), bit(5))
						if told, want := Judge(q), ruleByRule(q); told != want {
							t.Fatalf("P5: Judge(%+v) = %d, want %d", q, told, want)
						}
					}
				}
			}
		}
	}
}

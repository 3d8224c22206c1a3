package journal

import (
	"vault/api"
	"vault/wire"
)

// Cut reads the record at the front of a text, and gives what stands behind it; false if there is none that is whole, with the right check and of the form of P12. The record's texts are pieces of what was read: whoever keeps one clones it.
func Cut(text string) (r Record, behind string, ok bool) {
	in := reader{rest: text}
	payload := in.text(int(in.number(lengthSize)))
	sum := in.number(checkSize)
	if in.short || sum != uint64(check(payload)) {
		return Record{}, "", false
	}
	r, ok = readPayload(payload)
	if !ok {
		return Record{}, "", false
	}
	return r, in.rest, true
}

func readPayload(payload string) (Record, bool) {
	in := reader{rest: payload}
	kind := Kind(in.number(kindSize))
	time := in.number(timeSize)
	key := in.text(int(in.number(keyLengthSize)))
	number := in.number(numberSize)
	body := in.rest
	// The time is looked at ahead of becoming an int: in eight bytes there are some that are too great for one.
	if in.short || time > api.MaxClock || !wire.IsKey(key) || !kind.fits(body) {
		return Record{}, false
	}
	return Record{Kind: kind, Time: int(time), Key: key, Number: int(number), Body: body}, true
}

// fits tells whether a record of this kind can have such a body.
func (k Kind) fits(body string) bool {
	switch k {
	case Put:
		return len(body) <= api.MaxBody
	case Mark, Removal:
		return body == ""
	}
	return false
}

// reader takes a text apart from the front. Once there was less than was asked for it is short, for good, and gives nothing more.
type reader struct {
	rest  string
	short bool
}

func (in *reader) text(size int) string {
	if size > len(in.rest) {
		in.rest, in.short = "", true
		return ""
	}
	text := in.rest[:size]
	in.rest = in.rest[size:]
	return text
}

// number reads a number of so many bytes, the highest first.
func (in *reader) number(size int) uint64 {
	text := in.text(size)
	var number uint64
	for i := range len(text) {
		number = number<<8 | uint64(text[i])
	}
	return number
}

// Package journal has the bytes of the journal's records: it writes them (P12), and reads those that are of their form (P13).
package journal

// Kind is what was done.
type Kind byte

const (
	Put     Kind = iota + 1 // a version more
	Mark                    // a mark more
	Removal                 // a version, or a mark, that is there no more
)

// How many bytes the numbers of a record have.
const (
	lengthSize    = 2
	kindSize      = 1
	timeSize      = 8
	keyLengthSize = 1
	numberSize    = 4
	checkSize     = 4
)

// The numbers of the FNV-1a hash of 32 bits.
const (
	checkStart  uint32 = 2166136261
	checkFactor uint32 = 16777619
)

// Record tells one thing that was done.
type Record struct {
	Kind   Kind
	Time   int
	Key    string
	Number int    // of the version
	Body   string // of Put
}

// Text is the record in bytes (P12).
func (r Record) Text() string {
	payload := r.payload()
	out := appendNumber(nil, uint64(len(payload)), lengthSize)
	out = append(out, payload...)
	out = appendNumber(out, uint64(check(payload)), checkSize)
	return string(out)
}

func (r Record) payload() string {
	out := appendNumber(nil, uint64(r.Kind), kindSize)
	out = appendNumber(out, uint64(r.Time), timeSize)
	out = appendNumber(out, uint64(len(r.Key)), keyLengthSize)
	out = append(out, r.Key...)
	out = appendNumber(out, uint64(r.Number), numberSize)
	out = append(out, r.Body...)
	return string(out)
}

// appendNumber writes a number with so many bytes, the highest first.
func appendNumber(out []byte, number uint64, size int) []byte {
	for place := size - 1; place >= 0; place-- {
		out = append(out, byte(number>>(8*place)))
	}
	return out
}

func check(payload string) uint32 {
	sum := checkStart
	for i := range len(payload) {
		sum = (sum ^ uint32(payload[i])) * checkFactor
	}
	return sum
}

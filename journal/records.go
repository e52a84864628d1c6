package journal

import "errors"

// The kinds of records.
const (
	stateKind   = 1
	commandKind = 2
)

// How many bytes the parts of a record have; the load lies between the head and the sum.
const (
	kindBytes   = 1
	numberBytes = 8
	lengthBytes = 4
	headBytes   = kindBytes + numberBytes + lengthBytes
	sumBytes    = 8
)

const (
	firstSum  uint64 = 14695981039346656037
	sumFactor uint64 = 1099511628211
)

var (
	errShort = errors.New("bytes are missing")
	errSum   = errors.New("the sum is another one")
)

// record is a state or a command; which of them, a type switch tells.
type record any

// state has snap's bytes of what there is behind the command of its number.
type state struct {
	number int
	load   []byte
}

// command has verbs' line of it.
type command struct {
	number int
	line   string
}

func written(r record) []byte {
	var b []byte
	switch r := r.(type) {
	case state:
		b = unsummed(stateKind, r.number, r.load)
	case command:
		b = unsummed(commandKind, r.number, []byte(r.line))
	}
	return withNumber(b, sumOf(b), sumBytes)
}

// unsummed are a record's bytes ahead of its sum.
func unsummed(kind byte, number int, load []byte) []byte {
	b := make([]byte, 0, headBytes+len(load)+sumBytes)
	b = append(b, kind)
	b = withNumber(b, uint64(number), numberBytes)
	b = withNumber(b, uint64(len(load)), lengthBytes)
	return append(b, load...)
}

// firstOf reads the record that bytes begin with, whatever its kind, and tells how many bytes it has. A state's load lies in the memory of these bytes.
func firstOf(b []byte) (record, int, error) {
	if len(b) < headBytes+sumBytes {
		return nil, 0, errShort
	}
	number := numberOf(b[kindBytes:][:numberBytes])
	long := int(numberOf(b[kindBytes+numberBytes:][:lengthBytes]))
	if long > len(b)-headBytes-sumBytes {
		return nil, 0, errShort
	}
	sumAt := headBytes + long
	if numberOf(b[sumAt:][:sumBytes]) != sumOf(b[:sumAt]) {
		return nil, 0, errSum
	}
	return recordOf(b[0], int(number), b[headBytes:sumAt]), sumAt + sumBytes, nil
}

// recordOf is nil, and so neither sort of record, for a kind that is none.
func recordOf(kind byte, number int, load []byte) record {
	switch kind {
	case stateKind:
		return state{number, load}
	case commandKind:
		return command{number, string(load)}
	default:
		return nil
	}
}

func sumOf(b []byte) uint64 {
	sum := firstSum
	for _, one := range b {
		sum = (sum ^ uint64(one)) * sumFactor
	}
	return sum
}

// withNumber has a number behind bytes, in so many bytes, the highest one first.
func withNumber(b []byte, n uint64, many int) []byte {
	for i := range many {
		b = append(b, byte(n>>(8*(many-1-i))))
	}
	return b
}

func numberOf(b []byte) uint64 {
	n := uint64(0)
	for _, one := range b {
		n = n<<8 | uint64(one)
	}
	return n
}

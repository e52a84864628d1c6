package answers

import (
	"math"
	"strconv"
	"strings"

	"backfill/api"
)

// part is a piece of a line that knows its place in an answer or an event: so one list of parts is enough to check, to write and to read a line.
type part interface {
	// takeOut makes the place zero, so that only what no line names is left, and tells whether what stood there may be written.
	takeOut() bool
	// written answers the words with the part's own behind them.
	written(words []string) []string
	// read lays the first words in place, and answers those behind them.
	read(words []string) ([]string, bool)
}

// word stands in its line whatever the numbers are.
type word string

// number may be from least to most.
type number struct {
	place       *int
	least, most int
}

type natural struct{ place *uint64 }

// state is a number from least on that is written as the state's word.
type state struct {
	place *int
	least int
}

// list is all the numbers up to the line's end.
type list struct {
	place  *[]int
	rising bool
}

// stateWords stand by the states' numbers. That of 0 is no state's.
var stateWords = [api.Dropped + 1]string{
	api.Pending:   "pending",
	api.Running:   "running",
	api.Completed: "completed",
	api.Killed:    "killed",
	api.Stopped:   "stopped",
	api.Dropped:   "dropped",
}

func fromZero(place *int) part { return number{place, 0, math.MaxInt} }

// line is a word, and numbers from 0 on behind it.
func line(first string, places ...*int) []part {
	l := []part{word(first)}
	for _, place := range places {
		l = append(l, fromZero(place))
	}
	return l
}

func takeOutAll(parts []part) bool {
	for _, p := range parts {
		if !p.takeOut() {
			return false
		}
	}
	return true
}

func written(parts []part) string {
	var words []string
	for _, p := range parts {
		words = p.written(words)
	}
	return strings.Join(words, blank)
}

func writeLine(text *strings.Builder, parts []part) {
	text.WriteString(written(parts))
	text.WriteByte(lineEnd)
}

func readLine(text string, parts []part) bool { return readAll(strings.Split(text, blank), parts) }

// readAll tells whether the words are just those of the parts.
func readAll(words []string, parts []part) bool {
	for _, p := range parts {
		rest, ok := p.read(words)
		if !ok {
			return false
		}
		words = rest
	}
	return len(words) == 0
}

func (w word) takeOut() bool { return true }

func (w word) written(words []string) []string { return append(words, string(w)) }

func (w word) read(words []string) ([]string, bool) {
	if len(words) == 0 || words[0] != string(w) {
		return nil, false
	}
	return words[1:], true
}

func (n number) may() bool { return *n.place >= n.least && *n.place <= n.most }

func (n number) takeOut() bool {
	ok := n.may()
	*n.place = 0
	return ok
}

func (n number) written(words []string) []string { return append(words, strconv.Itoa(*n.place)) }

func (n number) read(words []string) ([]string, bool) {
	if len(words) == 0 {
		return nil, false
	}
	v, ok := numberOf(words[0])
	*n.place = v
	return words[1:], ok && n.may()
}

func (n natural) takeOut() bool {
	*n.place = 0
	return true
}

func (n natural) written(words []string) []string {
	return append(words, strconv.FormatUint(*n.place, 10))
}

func (n natural) read(words []string) ([]string, bool) {
	if len(words) == 0 {
		return nil, false
	}
	v, err := strconv.ParseUint(words[0], 10, 64)
	*n.place = v
	return words[1:], err == nil && strconv.FormatUint(v, 10) == words[0]
}

func (s state) takeOut() bool {
	ok := *s.place >= s.least && *s.place <= api.Dropped
	*s.place = 0
	return ok
}

func (s state) written(words []string) []string { return append(words, stateWords[*s.place]) }

func (s state) read(words []string) ([]string, bool) {
	if len(words) == 0 {
		return nil, false
	}
	for v := s.least; v <= api.Dropped; v++ {
		if stateWords[v] == words[0] {
			*s.place = v
			return words[1:], true
		}
	}
	return nil, false
}

func (l list) may() bool {
	for i, v := range *l.place {
		if v < 0 || l.rising && i > 0 && v <= (*l.place)[i-1] {
			return false
		}
	}
	return true
}

func (l list) takeOut() bool {
	ok := l.may()
	*l.place = nil
	return ok
}

func (l list) written(words []string) []string {
	for _, v := range *l.place {
		words = append(words, strconv.Itoa(v))
	}
	return words
}

func (l list) read(words []string) ([]string, bool) {
	for _, w := range words {
		v, ok := numberOf(w)
		if !ok {
			return nil, false
		}
		*l.place = append(*l.place, v)
	}
	return nil, l.may()
}

// numberOf takes just what would be written of the number: strconv alone reads a plus and zeros ahead too.
func numberOf(text string) (int, bool) {
	v, err := strconv.Atoi(text)
	return v, err == nil && strconv.Itoa(v) == text
}

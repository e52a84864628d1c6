package journal

import (
	"bytes"
	"errors"
	"strconv"

	"backfill/api"
	"backfill/core"
	"backfill/snap"
	"backfill/verbs"
)

var (
	errKind   = errors.New("the kind is none")
	errFirst  = errors.New("no state is ahead")
	errNumber = errors.New("the number is another one")
	errState  = errors.New("the state is none, or another one")
	errLine   = errors.New("the line is no command")
	errChange = errors.New("the command is no change")
)

// fault is what is wrong with the record that begins at a place: from there on nothing counts.
type fault struct {
	at  int
	why error
}

func (f *fault) Error() string {
	return "journal: at the byte " + strconv.Itoa(f.at) + ": " + f.why.Error()
}

func (f *fault) Unwrap() error { return f.why }

// story is what records tell, from the first one on; it has no core till that has been taken.
type story struct {
	core *core.Core
	last int // the number of the last command
	laid int // the number of the last state: they rise
}

func newStory() *story { return &story{laid: -1} }

// read takes bytes as far as they are right; where that is not to their end, a fault tells it.
func (s *story) read(b []byte) error {
	for at := 0; at < len(b); {
		r, size, err := firstOf(b[at:])
		if err == nil {
			err = s.take(r)
		}
		if err != nil {
			return &fault{at, err}
		}
		at += size
	}
	return nil
}

// take lets a record come behind the others, or tells what is wrong with it; then nothing has changed.
func (s *story) take(r record) error {
	switch r := r.(type) {
	case state:
		return s.takeState(r)
	case command:
		return s.takeCommand(r)
	default:
		return errKind
	}
}

func (s *story) takeState(r state) error {
	if r.number != s.last || r.number == s.laid {
		return errNumber
	}
	if s.core == nil {
		x, e := snap.Restore(r.load)
		if e != api.OK {
			return errState
		}
		s.core = x
	} else if !bytes.Equal(r.load, snap.Save(s.core)) {
		return errState
	}
	s.laid = r.number
	return nil
}

func (s *story) takeCommand(r command) error {
	if s.core == nil {
		return errFirst
	}
	if r.number != s.last+1 {
		return errNumber
	}
	c, e := verbs.Parse(r.line)
	if e != api.OK {
		return errLine
	}
	if !changes(c.Kind) || s.core.Do(c).Code != api.OK {
		return errChange
	}
	s.last = r.number
	return nil
}

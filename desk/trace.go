package desk

import (
	"slices"

	"backfill/api"
)

// trace is what happened, as long as there is room for it.
type trace struct {
	// Nobody writes into a List that stands here, so that clones may share it.
	events []api.Event
	// How much more may be kept: events, and the numbers in their Lists.
	room int
}

func newTrace() trace { return trace{room: api.MaxEvents} }

// keep takes events up. The first one that does not fit takes all room that is left, so that no smaller one behind it is kept.
func (t *trace) keep(events []api.Event) {
	for _, e := range events {
		size := 1 + len(e.List)
		if size > t.room {
			t.room = 0
			return
		}
		t.room -= size
		t.events = append(t.events, e)
	}
}

func (t trace) list() []api.Event {
	l := slices.Clone(t.events)
	for i := range l {
		l[i].List = slices.Clone(l[i].List)
	}
	return l
}

func (t trace) clone() trace { return trace{slices.Clone(t.events), t.room} }

package plan

import (
	"backfill/api"
	"backfill/core"
)

// queue is who is pending. Which job it is is all that is asked, so that nothing stands by a number.
type queue map[int]struct{}

// ahead lets a core go on, and tells who is started meanwhile.
func ahead(x *core.Core, ticks int) []api.Rank {
	var all []api.Rank
	q := queue{}
	q.fill(x)
	for range ticks {
		// Where nobody waits nobody is started any more, so that the ticks that are left tell nothing.
		if len(q) == 0 {
			break
		}
		// One at a time: of more together all would be refused where the clock's end lies among them.
		a := x.Do(api.Cmd{Kind: api.CmdTick, Ticks: 1})
		if a.Code != api.OK {
			break
		}
		if starts := startsOf(a.Events); len(starts) > 0 {
			all = append(all, starts...)
			q.fill(x)
		}
	}
	return all
}

// fill takes out all who were pending when somebody was started, and takes in who is pending still.
func (q queue) fill(x *core.Core) {
	clear(q)
	for n, j := range x.State().Jobs {
		if j.State == api.Pending {
			q[n] = struct{}{}
		}
	}
}

// startsOf are the jobs that events start, in their order, with their times.
func startsOf(events []api.Event) []api.Rank {
	var l []api.Rank
	for _, e := range events {
		if e.Kind == api.EvStart {
			l = append(l, api.Rank{Job: e.Job, Priority: e.At})
		}
	}
	return l
}

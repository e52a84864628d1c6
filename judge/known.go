package judge

import (
	"maps"
	"slices"

	"backfill/api"
	"backfill/nodes"
	"backfill/pass"
)

const nobody = -1

// known is what the judge knows behind some events.
type known struct {
	config api.Config
	now    int
	// How many jobs there are. One that is neither pending nor running has ended: nothing else is ever asked of it.
	jobs    int
	pending map[int]api.Want
	running map[int]run
	holder  int
	free    *nodes.Set

	passWanted, fadeWanted bool
	// Of the open pass. Nil, if none is open, or it has no plan: no rule tells these two apart.
	plan *plan
}

// run is a job that runs: its nodes, and when it ends at the latest.
type run struct {
	set []int
	end int
}

// plan is what an open pass has to do.
type plan struct {
	holder int
	// Those that no EvStart has named yet. Who was named is pending no more, so that a pending job is among all that the pass was to start just if it is among these.
	starts []int
}

// beginning is what is known ahead of all events, by a config that may be.
func beginning(c api.Config) *known {
	free, _ := nodes.New(c.Nodes)
	return &known{config: c, pending: map[int]api.Want{}, running: map[int]run{}, holder: nobody, free: free}
}

// isDue tells whether someone should have been killed already.
func (k *known) isDue() bool {
	for _, r := range k.running {
		if r.end <= k.now {
			return true
		}
	}
	return false
}

// inRank are the pending jobs in the order of a list; false, if it is not all of them, each once.
func (k *known) inRank(l []int) ([]api.Want, bool) {
	others := maps.Clone(k.pending)
	var wants []api.Want
	for _, n := range l {
		w, there := others[n]
		if !there {
			return nil, false
		}
		wants = append(wants, w)
		delete(others, n)
	}
	return wants, len(others) == 0
}

// openPass finds what a pass has to do where nobody is due. Nothing is refused: who runs has as many nodes as it asked for, and nobody asks for more than there are.
func (k *known) openPass(wants []api.Want) {
	var runs []api.Run
	// In any order: a pass does not see it.
	for _, r := range k.running {
		runs = append(runs, api.Run{Nodes: len(r.set), End: r.end})
	}
	p, _ := pass.Pass(k.now, k.free.Free(), wants, k.holder, runs)
	k.plan = &plan{p.Holder, p.Starts}
}

func (k *known) areFree(l []int) bool {
	isTaken := func(node int) bool { return !k.free.Has(node) }
	return !slices.ContainsFunc(l, isTaken)
}

// isNext tells whether a job is the one that the plan starts next.
func (k *known) isNext(job int) bool {
	return k.plan != nil && len(k.plan.starts) > 0 && k.plan.starts[0] == job
}

// isSkipped tells whether a job would fit, and is not started as it would delay the one that holds.
func (k *known) isSkipped(job int) bool {
	w, pends := k.pending[job]
	return pends && k.plan != nil && k.plan.holder != nobody &&
		!slices.Contains(k.plan.starts, job) && w.Nodes <= k.free.Free()
}

// leave lets a job be pending and holding no more.
func (k *known) leave(job int) {
	delete(k.pending, job)
	if k.holder == job {
		k.holder = nobody
	}
}

func isFrom(least, most, n int) bool { return least <= n && n <= most }

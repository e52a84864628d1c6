package judge

import (
	"slices"

	"backfill/api"
	"backfill/pass"
)

// plain judges by the chapter, word by word: whatever it needs to know it searches for, and the limits, kinds and rules stand here as numbers.
type plain struct {
	c      api.Config
	now    int
	jobs   []plainJob
	holder int

	passWanted, fadeWanted bool
	open, hasPlan          bool
	plan                   api.Plan
	named                  []int
}

// plainJob has the state 1, 2, or 3 for all that have ended.
type plainJob struct {
	nodes, limit, state, start int
	set                        []int
}

func plainNew(c api.Config) *plain { return &plain{c: c, holder: -1} }

// plainAll is P21.1 of what is not refused.
func plainAll(c api.Config, l []api.Event) []api.Fault {
	p := plainNew(c)
	var faults []api.Fault
	for at, e := range l {
		for rule, broken := range p.hear(e) {
			if broken {
				faults = append(faults, api.Fault{At: at, Rule: rule})
			}
		}
	}
	return faults
}

// those are the numbers of the jobs of a state.
func (p *plain) those(state int) []int {
	var l []int
	for n, j := range p.jobs {
		if j.state == state {
			l = append(l, n)
		}
	}
	return l
}

// state is 0 of a job that there is not.
func (p *plain) state(n int) int {
	if n >= len(p.jobs) {
		return 0
	}
	return p.jobs[n].state
}

func (p *plain) free() []int {
	var l []int
	for node := range p.c.Nodes {
		has := func(n int) bool { return slices.Contains(p.jobs[n].set, node) }
		if !slices.ContainsFunc(p.those(2), has) {
			l = append(l, node)
		}
	}
	return l
}

// overdue are those of whom one says: someone is due.
func (p *plain) overdue() []int {
	var l []int
	for _, n := range p.those(2) {
		if p.jobs[n].start+p.jobs[n].limit <= p.now {
			l = append(l, n)
		}
	}
	return l
}

// next is -1 if there is none.
func (p *plain) next() int {
	if !p.open || !p.hasPlan {
		return -1
	}
	for _, n := range p.plan.Starts {
		if !slices.Contains(p.named, n) {
			return n
		}
	}
	return -1
}

// hear tells of each rule whether it is broken.
func (p *plain) hear(e api.Event) [9]bool {
	var broken [9]bool
	if p.open && p.hasPlan && e.Kind != 2 && e.Kind != 4 {
		broken[8] = p.next() >= 0
		broken[6] = p.plan.Holder != p.holder
	}
	if e.Kind == 1 || e.Kind == 6 || e.Kind == 3 && e.Nodes != 4 {
		broken[4] = p.fadeWanted
		broken[8] = broken[8] || p.passWanted && len(p.those(1)) > 0
		p.passWanted, p.fadeWanted = false, false
	}
	p.ask(e, &broken)
	if e.Kind != 2 && e.Kind != 4 {
		p.open = false
	}
	p.then(e, broken)
	return broken
}

// ask is the table's rules.
func (p *plain) ask(e api.Event, broken *[9]bool) {
	due := len(p.overdue()) > 0
	late := e.At != p.now
	switch e.Kind {
	case 1:
		broken[1] = e.Job != len(p.jobs) || len(p.those(1)) == p.c.Queue || len(p.jobs) == 4096
		broken[2] = e.Nodes < 1 || e.Nodes > p.c.Nodes || e.Limit < 1 || e.Limit > p.c.Limit
		broken[3] = due
		broken[4] = broken[4] || late
	case 2:
		p.askStart(e, broken)
		broken[4] = late
	case 3:
		state := p.state(e.Job)
		ends := 0
		if state == 2 {
			ends = p.jobs[e.Job].start + p.jobs[e.Job].limit
		}
		broken[1] = state == 0 || state == 3
		broken[4] = broken[4] || late
		switch e.Nodes {
		case 4:
			broken[3] = state != 2 || ends != p.now
		case 3, 5:
			broken[3] = state != 2 || ends <= p.now || due
		case 6:
			broken[3] = state != 1 || due
		}
	case 4:
		broken[4] = late
		broken[6] = !p.open || !p.hasPlan || p.next() >= 0 || e.Job != p.plan.Holder || e.Job == p.holder
	case 5:
		broken[3] = due
		broken[4] = late || !p.passWanted || p.fadeWanted
		broken[5] = !p.areAllPending(e.List)
	case 6:
		broken[3] = due
		broken[4] = broken[4] || e.At != p.now+1
	case 7:
		broken[3] = due
		broken[4] = late || !p.fadeWanted
	}
}

func (p *plain) askStart(e api.Event, broken *[9]bool) {
	pends := p.state(e.Job) == 1
	broken[1] = !pends
	if pends {
		broken[2] = len(e.List) != p.jobs[e.Job].nodes
		for _, node := range e.List {
			broken[2] = broken[2] || !slices.Contains(p.free(), node)
		}
	}
	if next := p.next(); next >= 0 && next == e.Job {
		return
	}
	if p.open && p.hasPlan && p.plan.Holder >= 0 && pends && !slices.Contains(p.plan.Starts, e.Job) && p.jobs[e.Job].nodes <= len(p.free()) {
		broken[7] = true
		return
	}
	broken[5] = true
}

func (p *plain) areAllPending(l []int) bool {
	sorted := slices.Sorted(slices.Values(l))
	return slices.Equal(sorted, p.those(1))
}

// then is what is told under 'then'.
func (p *plain) then(e api.Event, broken [9]bool) {
	switch e.Kind {
	case 1:
		if !broken[1] && !broken[2] {
			p.jobs = append(p.jobs, plainJob{nodes: e.Nodes, limit: e.Limit, state: 1})
		}
	case 2:
		p.named = append(p.named, e.Job)
		if p.state(e.Job) != 1 {
			return
		}
		j := &p.jobs[e.Job]
		j.state, j.start, j.set = 2, p.now, e.List
		if broken[2] {
			j.state = 3
		}
		p.letGo(e.Job)
	case 3:
		if p.state(e.Job) != 0 {
			p.jobs[e.Job].state = 3
			p.letGo(e.Job)
		}
	case 4:
		if p.state(e.Job) == 1 {
			p.holder = e.Job
		}
	case 5:
		p.passWanted, p.fadeWanted = false, false
		p.openPass(e.List)
	case 6:
		p.now++
		p.passWanted, p.fadeWanted = true, p.now%p.c.Period == 0
	case 7:
		p.fadeWanted = false
	}
}

func (p *plain) letGo(n int) {
	if p.holder == n {
		p.holder = -1
	}
}

func (p *plain) openPass(l []int) {
	p.open, p.hasPlan, p.named = true, p.areAllPending(l) && len(p.overdue()) == 0, nil
	if !p.hasPlan {
		return
	}
	var wants []api.Want
	for _, n := range l {
		wants = append(wants, api.Want{Job: n, Nodes: p.jobs[n].nodes, Limit: p.jobs[n].limit})
	}
	var runs []api.Run
	for _, n := range p.those(2) {
		runs = append(runs, api.Run{Nodes: p.jobs[n].nodes, End: p.jobs[n].start + p.jobs[n].limit})
	}
	var code api.Errno
	p.plan, code = pass.Pass(p.now, len(p.free()), wants, p.holder, runs)
	if code != 0 {
		panic("a pass is refused")
	}
}

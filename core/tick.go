package core

import (
	"slices"

	"backfill/api"
	"backfill/pass"
	"backfill/prio"
)

func (x *Core) ticks(c api.Cmd) api.Answer {
	if !isFrom(1, api.MaxTicks, c.Ticks) {
		return coded(api.ErrCoreTicks)
	}
	if x.now+c.Ticks > api.Horizon {
		return coded(api.ErrCoreHorizon)
	}
	var events []api.Event
	for range c.Ticks {
		events = append(events, x.tick()...)
	}
	return api.Answer{Events: events}
}

// tick lets the clock go on by one. The order counts: who is killed pays for its last tick, what fades is all that was charged, and a pass ranks by what is left and finds free what was given back.
func (x *Core) tick() []api.Event {
	x.now++
	events := []api.Event{{Kind: api.EvTick, At: x.now}}
	x.charge()
	events = append(events, x.kill()...)
	events = append(events, x.fade()...)
	return append(events, x.pass()...)
}

func (x *Core) charge() {
	for _, n := range x.running() {
		// Never refused: its account is there, and no job has more nodes than the machine.
		x.usages.Charge(x.jobs[n].Account, x.jobs[n].Nodes)
	}
}

// running are the numbers of those that run, rising.
func (x *Core) running() []int {
	var l []int
	for n := range x.due.All() {
		l = append(l, n)
	}
	slices.Sort(l)
	return l
}

// kill ends those that are due. They are all due just now, as each tick asks, so that they come by rising numbers.
func (x *Core) kill() []api.Event {
	var events []api.Event
	for _, n := range x.due.Due(x.now) {
		events = append(events, x.stop(n, api.Killed))
	}
	return events
}

func (x *Core) fade() []api.Event {
	if x.now%x.config.Period != 0 {
		return nil
	}
	x.usages.Fade()
	return []api.Event{{Kind: api.EvDecay, At: x.now}}
}

func (x *Core) pass() []api.Event {
	if len(x.waiting) == 0 {
		return nil
	}
	order, wants := x.inRank()
	events := []api.Event{{Kind: api.EvPass, At: x.now, List: order}}
	// Never refused: who waits asks for no more than the machine has, and who runs is not due.
	plan, _ := pass.Pass(x.now, x.free.Free(), wants, x.holder, x.runs())
	for _, n := range plan.Starts {
		events = append(events, x.start(n))
	}
	if plan.Holder != nobody && plan.Holder != x.holder {
		events = append(events, api.Event{Kind: api.EvPin, Job: plan.Holder, At: x.now})
	}
	x.holder = plan.Holder
	return events
}

// inRank tells who waits, the first in rank first: their numbers, and what they want.
func (x *Core) inRank() (order []int, wants []api.Want) {
	for _, r := range prio.Ranks(x.seen()) {
		order = append(order, r.Job)
		wants = append(wants, x.waiting[r.Job])
	}
	return order, wants
}

// start starts a job that was pending, on the lowest free nodes.
func (x *Core) start(n int) api.Event {
	delete(x.waiting, n)
	// Never refused: a pass starts what fits.
	set, _ := x.free.Take(x.jobs[n].Nodes)
	x.jobs[n].State, x.jobs[n].Start, x.jobs[n].Set = api.Running, x.now, set
	x.setDue(n)
	return api.Event{Kind: api.EvStart, Job: n, At: x.now, List: slices.Clone(set)}
}

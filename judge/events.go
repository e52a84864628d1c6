package judge

import (
	"slices"

	"backfill/api"
)

// happening is an event as it is judged: first the rules of its kind are asked, then it is so.
type happening interface {
	ask(k *known, v *verdict)
	then(k *known, v *verdict)
}

// The kinds of events.
type (
	submit  api.Event
	start   api.Event
	end     api.Event
	pin     api.Event
	passing api.Event
	tick    api.Event
	fade    api.Event
)

// happeningOf is for the kinds that answers takes.
func happeningOf(e api.Event) happening {
	switch e.Kind {
	case api.EvSubmit:
		return submit(e)
	case api.EvStart:
		return start(e)
	case api.EvEnd:
		return end(e)
	case api.EvPin:
		return pin(e)
	case api.EvPass:
		return passing(e)
	case api.EvTick:
		return tick(e)
	}
	return fade(e)
}

// hear tells what is wrong with an event; it is so then, whether there was a fault or not.
func (k *known) hear(at int, e api.Event) []api.Fault {
	v := &verdict{at: at}
	if !isOfPass(e) {
		k.closePass(v)
	}
	if !isOfTick(e) {
		k.endTick(v)
	}
	h := happeningOf(e)
	h.ask(k, v)
	h.then(k, v)
	return v.rising()
}

// isOfPass tells whether an event is what a pass does.
func isOfPass(e api.Event) bool { return e.Kind == api.EvStart || e.Kind == api.EvPin }

// isOfTick tells whether an event is what a tick does, once the clock has gone on.
func isOfTick(e api.Event) bool {
	switch e.Kind {
	case api.EvSubmit, api.EvTick:
		return false
	case api.EvEnd:
		return e.Nodes == api.Killed
	}
	return true
}

// closePass asks whether the open pass has done all that it had to.
func (k *known) closePass(v *verdict) {
	if k.plan == nil {
		return
	}
	v.find(api.RuleLeft, len(k.plan.starts) > 0)
	v.find(api.RulePin, k.plan.holder != k.holder)
	k.plan = nil
}

// endTick asks whether what belongs to the last tick was done.
func (k *known) endTick(v *verdict) {
	v.find(api.RuleClock, k.fadeWanted)
	v.find(api.RuleLeft, k.passWanted && len(k.pending) > 0)
	k.passWanted, k.fadeWanted = false, false
}

func (e submit) ask(k *known, v *verdict) {
	v.find(api.RuleOnce, e.Job != k.jobs || len(k.pending) == k.config.Queue || k.jobs == api.MaxJobs)
	v.find(api.RuleNodes, !isFrom(1, k.config.Nodes, e.Nodes) || !isFrom(1, k.config.Limit, e.Limit))
	v.find(api.RuleEnd, k.isDue())
	v.find(api.RuleClock, e.At != k.now)
}

func (e submit) then(k *known, v *verdict) {
	if v.has(api.RuleOnce) || v.has(api.RuleNodes) {
		return
	}
	k.pending[e.Job] = api.Want{Job: e.Job, Nodes: e.Nodes, Limit: e.Limit}
	k.jobs++
}

func (e tick) ask(k *known, v *verdict) {
	v.find(api.RuleEnd, k.isDue())
	v.find(api.RuleClock, e.At != k.now+1)
}

func (e tick) then(k *known, _ *verdict) {
	k.now++
	k.passWanted, k.fadeWanted = true, k.now%k.config.Period == 0
}

func (e end) ask(k *known, v *verdict) {
	_, pends := k.pending[e.Job]
	r, runs := k.running[e.Job]
	v.find(api.RuleOnce, !pends && !runs)
	v.find(api.RuleClock, e.At != k.now)
	switch e.Nodes {
	case api.Killed:
		v.find(api.RuleEnd, !runs || r.end != k.now)
	case api.Completed, api.Stopped:
		// If its own end is not above now, it is due itself.
		v.find(api.RuleEnd, !runs || k.isDue())
	case api.Dropped:
		v.find(api.RuleEnd, !pends || k.isDue())
	}
}

func (e end) then(k *known, _ *verdict) {
	k.leave(e.Job)
	k.free.Give(k.running[e.Job].set)
	delete(k.running, e.Job)
}

func (e fade) ask(k *known, v *verdict) {
	v.find(api.RuleEnd, k.isDue())
	v.find(api.RuleClock, e.At != k.now || !k.fadeWanted)
}

func (e fade) then(k *known, _ *verdict) { k.fadeWanted = false }

func (e passing) ask(k *known, v *verdict) {
	_, all := k.inRank(e.List)
	v.find(api.RuleEnd, k.isDue())
	v.find(api.RuleClock, e.At != k.now || !k.passWanted || k.fadeWanted)
	v.find(api.RuleRank, !all)
}

func (e passing) then(k *known, v *verdict) {
	k.passWanted, k.fadeWanted = false, false
	if wants, all := k.inRank(e.List); all && !v.has(api.RuleEnd) {
		k.openPass(wants)
	}
}

func (e start) ask(k *known, v *verdict) {
	w, pends := k.pending[e.Job]
	v.find(api.RuleOnce, !pends)
	v.find(api.RuleNodes, pends && (len(e.List) != w.Nodes || !k.areFree(e.List)))
	v.find(api.RuleClock, e.At != k.now)
	if !k.isNext(e.Job) {
		skipped := k.isSkipped(e.Job)
		v.find(api.RuleFill, skipped)
		v.find(api.RuleRank, !skipped)
	}
}

func (e start) then(k *known, v *verdict) {
	w, pends := k.pending[e.Job]
	if !pends {
		return
	}
	k.leave(e.Job)
	if k.plan != nil {
		isNamed := func(n int) bool { return n == e.Job }
		k.plan.starts = slices.DeleteFunc(k.plan.starts, isNamed)
	}
	// One that was started on wrong nodes has ended: nobody could tell which ones it has.
	if !v.has(api.RuleNodes) {
		k.free.Claim(e.List)
		k.running[e.Job] = run{e.List, k.now + w.Limit}
	}
}

func (e pin) ask(k *known, v *verdict) {
	p := k.plan
	v.find(api.RuleClock, e.At != k.now)
	v.find(api.RulePin, p == nil || len(p.starts) > 0 || e.Job != p.holder || e.Job == k.holder)
}

func (e pin) then(k *known, _ *verdict) {
	if _, pends := k.pending[e.Job]; pends {
		k.holder = e.Job
	}
}

package core

import (
	"backfill/api"
	"backfill/config"
	"backfill/ledger"
	"backfill/prio"
	"backfill/profile"
	"backfill/share"
)

// deed is what a kind of command does. It refuses ahead of any change.
type deed func(x *Core, c api.Cmd) api.Answer

// deedOf picks a deed; the kind is one that verbs.Check takes.
func deedOf(kind int) deed {
	return [api.Commands + 1]deed{
		api.CmdSubmit:   (*Core).submit,
		api.CmdCancel:   (*Core).cancel,
		api.CmdComplete: (*Core).complete,
		api.CmdTick:     (*Core).ticks,
		api.CmdAccount:  (*Core).account,
		api.CmdShares:   (*Core).shares,
		api.CmdMove:     (*Core).move,
		api.CmdClose:    (*Core).close,
		api.CmdJob:      (*Core).job,
		api.CmdQueue:    (*Core).queue,
		api.CmdUsage:    (*Core).usage,
		api.CmdNodes:    (*Core).nodes,
		api.CmdConfig:   (*Core).configs,
	}[kind]
}

// coded is an answer without anything but its code.
func coded(e api.Errno) api.Answer { return api.Answer{Code: e} }

func (x *Core) submit(c api.Cmd) api.Answer {
	account, there := x.accounts.Find(c.Name)
	if !there || account == rootNumber {
		return coded(api.ErrCoreAccount)
	}
	if e := x.refusesJob(account, c); e != api.OK {
		return coded(e)
	}
	n := len(x.jobs)
	x.jobs = append(x.jobs, api.Job{Account: account, Nodes: c.Nodes, Limit: c.Limit, Submit: x.now, State: api.Pending})
	x.lineUp(n)
	return api.Answer{Id: n, Events: []api.Event{{Kind: api.EvSubmit, Job: n, At: x.now, Nodes: c.Nodes, Limit: c.Limit}}}
}

// refusesJob tells why an account may not submit a job.
func (x *Core) refusesJob(account int, c api.Cmd) api.Errno {
	switch {
	case x.isClosed(account):
		return api.ErrCoreClosed
	case !isFrom(1, x.config.Nodes, c.Nodes):
		return api.ErrCoreNodes
	case !isFrom(1, x.config.Limit, c.Limit):
		return api.ErrCoreLimit
	case len(x.waiting) >= x.config.Queue:
		return api.ErrCoreQueue
	case len(x.jobs) >= api.MaxJobs:
		return api.ErrCoreRecords
	case x.now+config.Bound(x.config) > api.Horizon:
		// Else it might wait beyond the clock's end.
		return api.ErrCoreHorizon
	}
	return api.OK
}

// isClosed tells whether an account, or one above it, takes no more jobs. The root, where it ends, is never closed.
func (x *Core) isClosed(account int) bool {
	for account != rootNumber {
		a, _ := x.accounts.Get(account)
		if a.Closed {
			return true
		}
		account = a.Parent
	}
	return false
}

func (x *Core) cancel(c api.Cmd) api.Answer {
	if !x.hasJob(c.Job) {
		return coded(api.ErrCoreJob)
	}
	switch x.jobs[c.Job].State {
	case api.Pending:
		return told(x.drop(c.Job))
	case api.Running:
		return told(x.stop(c.Job, api.Stopped))
	}
	return coded(api.ErrCoreState)
}

func (x *Core) complete(c api.Cmd) api.Answer {
	if !x.hasJob(c.Job) {
		return coded(api.ErrCoreJob)
	}
	if x.jobs[c.Job].State != api.Running {
		return coded(api.ErrCoreState)
	}
	return told(x.stop(c.Job, api.Completed))
}

func told(e api.Event) api.Answer { return api.Answer{Events: []api.Event{e}} }

// drop ends a job that is pending.
func (x *Core) drop(n int) api.Event {
	delete(x.waiting, n)
	if x.holder == n {
		x.holder = nobody
	}
	return x.end(n, api.Dropped)
}

// stop ends a job that runs; its nodes are free.
func (x *Core) stop(n, state int) api.Event {
	// One that is killed is out already, as it was due.
	x.due.Drop(n)
	x.free.Give(x.jobs[n].Set)
	return x.end(n, state)
}

func (x *Core) end(n, state int) api.Event {
	x.jobs[n].State, x.jobs[n].End = state, x.now
	return api.Event{Kind: api.EvEnd, Job: n, At: x.now, Nodes: state}
}

func (x *Core) account(c api.Cmd) api.Answer {
	n, e := x.accounts.Add(c.Name, c.Parent, c.Shares)
	if e != api.OK {
		return coded(e)
	}
	// It gets the same number: both have all accounts, in the order in which they came.
	x.usages.Open()
	return api.Answer{Id: n}
}

func (x *Core) shares(c api.Cmd) api.Answer { return coded(x.accounts.Shares(c.Name, c.Shares)) }

func (x *Core) move(c api.Cmd) api.Answer { return coded(x.accounts.Move(c.Name, c.Parent)) }

func (x *Core) close(c api.Cmd) api.Answer { return coded(x.accounts.Close(c.Name)) }

func (x *Core) job(c api.Cmd) api.Answer {
	if !x.hasJob(c.Job) {
		return coded(api.ErrCoreJob)
	}
	return api.Answer{Job: copyOf(x.jobs[c.Job])}
}

func (x *Core) queue(api.Cmd) api.Answer {
	return api.Answer{Ranks: prio.Ranks(x.seen()), Holder: x.holder, Shadow: x.shadow()}
}

// shadow is when the holder is sure to fit; 0, if nobody holds, or it would fit now.
func (x *Core) shadow() int {
	want, held := x.waiting[x.holder]
	if !held || want.Nodes <= x.free.Free() {
		return 0
	}
	at, _, _ := profile.Shadow(x.now, x.free.Free(), x.runs(), want.Nodes)
	return at
}

func (x *Core) usage(c api.Cmd) api.Answer {
	n, there := x.accounts.Find(c.Name)
	if !there {
		return coded(api.ErrCoreAccount)
	}
	below := x.accounts.Below(n)
	return api.Answer{
		Raw:    ledger.Raw(x.jobs, below, x.now),
		Usage:  x.usages.Sum(below),
		Factor: share.Factors(x.config, x.accountsUsed())[n],
	}
}

func (x *Core) nodes(api.Cmd) api.Answer { return api.Answer{Free: x.free.Free()} }

func (x *Core) configs(api.Cmd) api.Answer {
	return api.Answer{Config: x.config, Bound: config.Bound(x.config)}
}

func (x *Core) hasJob(n int) bool { return isFrom(0, len(x.jobs)-1, n) }

func isFrom(least, most, n int) bool { return least <= n && n <= most }

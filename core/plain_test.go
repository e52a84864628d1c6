package core

import (
	"math"
	"slices"

	"backfill/api"
	"backfill/config"
	"backfill/decay"
	"backfill/prio"
	"backfill/share"
	"backfill/tree"
	"backfill/verbs"
)

// plain does what the chapter says, word by word, on nothing but a state: whatever it needs to know it searches for, and the limits and errors stand here as numbers.
type plain struct{ s api.State }

func plainNew(c api.Config) *plain {
	root := api.Account{Name: "root", Parent: -1, Shares: 1}
	return &plain{api.State{Config: c, Accounts: []api.Account{root}, Holder: -1}}
}

// do is P18.4.
func (p *plain) do(c api.Cmd) api.Answer {
	if verbs.Check(c) != 0 {
		return api.Answer{Code: 84}
	}
	switch c.Kind {
	case 1:
		return p.submit(c)
	case 2, 3:
		return p.endBy(c)
	case 4:
		return p.ticks(c.Ticks)
	case 5, 6, 7, 8:
		return p.onTree(c)
	case 9:
		if c.Job >= len(p.s.Jobs) {
			return api.Answer{Code: 182}
		}
		return api.Answer{Job: deepCopy(p.s).Jobs[c.Job]}
	case 10:
		return api.Answer{Ranks: prio.Ranks(p.s), Holder: p.s.Holder, Shadow: p.shadow()}
	case 11:
		return p.usage(c.Name)
	case 12:
		return api.Answer{Free: len(p.free())}
	}
	return api.Answer{Config: p.s.Config, Bound: config.Bound(p.s.Config)}
}

// numbered is an account's number by its name; -1: there is none.
func (p *plain) numbered(name string) int {
	return slices.IndexFunc(p.s.Accounts, func(a api.Account) bool { return a.Name == name })
}

func (p *plain) submit(c api.Cmd) api.Answer {
	s := &p.s
	n := p.numbered(c.Name)
	if n < 1 {
		return api.Answer{Code: 181}
	}
	for above := n; above != 0; above = s.Accounts[above].Parent {
		if s.Accounts[above].Closed {
			return api.Answer{Code: 184}
		}
	}
	bounds := []struct {
		broken bool
		e      api.Errno
	}{
		{c.Nodes < 1 || c.Nodes > s.Config.Nodes, 185},
		{c.Limit < 1 || c.Limit > s.Config.Limit, 186},
		{len(those(*s, 1)) == s.Config.Queue, 187},
		{len(s.Jobs) == 4096, 188},
		{s.Now+config.Bound(s.Config) > 1<<40, 180},
	}
	for _, b := range bounds {
		if b.broken {
			return api.Answer{Code: b.e}
		}
	}
	id := len(s.Jobs)
	s.Jobs = append(s.Jobs, api.Job{Account: n, Nodes: c.Nodes, Limit: c.Limit, Submit: s.Now, State: 1})
	return api.Answer{Id: id, Events: []api.Event{{Kind: 1, Job: id, At: s.Now, Nodes: c.Nodes, Limit: c.Limit}}}
}

// endBy is cancel, or complete.
func (p *plain) endBy(c api.Cmd) api.Answer {
	if c.Job >= len(p.s.Jobs) {
		return api.Answer{Code: 182}
	}
	state := p.s.Jobs[c.Job].State
	if state > 2 || c.Kind == 3 && state != 2 {
		return api.Answer{Code: 183}
	}
	how := map[[2]int]int{{2, 1}: 6, {2, 2}: 5, {3, 2}: 3}[[2]int{c.Kind, state}]
	if p.s.Holder == c.Job {
		p.s.Holder = -1
	}
	return api.Answer{Events: []api.Event{p.end(c.Job, how)}}
}

func (p *plain) end(n, how int) api.Event {
	p.s.Jobs[n].State, p.s.Jobs[n].End = how, p.s.Now
	return api.Event{Kind: 3, Job: n, At: p.s.Now, Nodes: how}
}

// onTree asks a tree that is made anew each time.
func (p *plain) onTree(c api.Cmd) api.Answer {
	t, e := tree.Load(p.s.Accounts)
	id := 0
	switch c.Kind {
	case 5:
		id, e = t.Add(c.Name, c.Parent, c.Shares)
	case 6:
		e = t.Shares(c.Name, c.Shares)
	case 7:
		e = t.Move(c.Name, c.Parent)
	case 8:
		e = t.Close(c.Name)
	}
	l := t.List()
	for n, a := range p.s.Accounts {
		l[n].Usage = a.Usage
	}
	p.s.Accounts = l
	return api.Answer{Code: e, Id: id}
}

func (p *plain) usage(name string) api.Answer {
	n := p.numbered(name)
	if n < 0 {
		return api.Answer{Code: 181}
	}
	a := api.Answer{Factor: share.Factors(p.s.Config, p.s.Accounts)[n]}
	for k, other := range p.s.Accounts {
		if isBelow(p.s.Accounts, k, n) {
			a.Usage += min(other.Usage, math.MaxUint64-a.Usage)
			a.Raw += rawOf(p.s, k)
		}
	}
	return a
}

// isBelow tells whether an account is another one, or below it.
func isBelow(l []api.Account, n, other int) bool {
	for n != other && n != 0 {
		n = l[n].Parent
	}
	return n == other
}

// rawOf is P18.9 of one account's own jobs.
func rawOf(s api.State, account int) int {
	sum := 0
	for _, j := range s.Jobs {
		switch {
		case j.Account != account:
		case j.State == 2:
			sum += j.Nodes * (s.Now - j.Start)
		case j.State >= 3 && j.State <= 5:
			sum += j.Nodes * (j.End - j.Start)
		}
	}
	return sum
}

// those are the numbers of the jobs of a State, rising.
func those(s api.State, state int) []int {
	var l []int
	for n, j := range s.Jobs {
		if j.State == state {
			l = append(l, n)
		}
	}
	return l
}

// free are the nodes that nobody who runs has, rising.
func (p *plain) free() []int {
	var l []int
	for node := range p.s.Config.Nodes {
		has := func(n int) bool { return slices.Contains(p.s.Jobs[n].Set, node) }
		if !slices.ContainsFunc(those(p.s, 2), has) {
			l = append(l, node)
		}
	}
	return l
}

func (p *plain) ticks(many int) api.Answer {
	if many < 1 || many > 256 {
		return api.Answer{Code: 189}
	}
	if p.s.Now+many > 1<<40 {
		return api.Answer{Code: 180}
	}
	var l []api.Event
	for range many {
		l = append(l, p.tick()...)
	}
	return api.Answer{Events: l}
}

// tick is P18.5.
func (p *plain) tick() []api.Event {
	s := &p.s
	s.Now++
	l := []api.Event{{Kind: 6, At: s.Now}}
	for _, n := range those(*s, 2) {
		a := &s.Accounts[s.Jobs[n].Account]
		a.Usage = decay.Charge(a.Usage, s.Jobs[n].Nodes)
	}
	for _, n := range those(*s, 2) {
		if s.Jobs[n].Start+s.Jobs[n].Limit == s.Now {
			l = append(l, p.end(n, 4))
		}
	}
	if s.Now%s.Config.Period == 0 {
		f, _ := decay.Factor(s.Config.Period, s.Config.Half)
		for n := range s.Accounts {
			s.Accounts[n].Usage = decay.Fade(s.Accounts[n].Usage, f)
		}
		l = append(l, api.Event{Kind: 7, At: s.Now})
	}
	return append(l, p.pass()...)
}

// pass is the fifth part of a tick, and with it P15.2.
func (p *plain) pass() []api.Event {
	var order []int
	for _, r := range prio.Ranks(p.s) {
		order = append(order, r.Job)
	}
	if len(order) == 0 {
		return nil
	}
	l := []api.Event{{Kind: 5, At: p.s.Now, List: order}}
	fits := func(n int) bool { return p.s.Jobs[n].Nodes <= len(p.free()) }
	waits := func(n int) bool { return p.s.Jobs[n].State == 1 }
	start := func(n int) { l = append(l, p.start(n)) }
	was := p.s.Holder
	if was != -1 && fits(was) {
		start(was)
		p.s.Holder = -1
	}
	for _, n := range order {
		switch {
		case p.s.Holder != -1 || !waits(n):
		case fits(n):
			start(n)
		default:
			p.s.Holder = n
		}
	}
	if p.s.Holder == -1 {
		return l
	}
	shadow, extra := p.sure(p.s.Jobs[p.s.Holder].Nodes)
	for _, n := range order {
		j := p.s.Jobs[n]
		switch {
		case n == p.s.Holder || !waits(n) || !fits(n):
		case p.s.Now+j.Limit <= shadow:
			start(n)
		case j.Nodes <= extra:
			start(n)
			extra -= j.Nodes
		}
	}
	if p.s.Holder != was {
		l = append(l, api.Event{Kind: 4, Job: p.s.Holder, At: p.s.Now})
	}
	return l
}

func (p *plain) start(n int) api.Event {
	j := &p.s.Jobs[n]
	set := p.free()[:j.Nodes]
	j.State, j.Start, j.Set = 2, p.s.Now, slices.Clone(set)
	return api.Event{Kind: 2, Job: n, At: p.s.Now, List: set}
}

// sure is when so many nodes are sure to be free, going on tick by tick; and how many more are free then.
func (p *plain) sure(need int) (shadow, extra int) {
	for t := p.s.Now; ; t++ {
		free := len(p.free())
		for _, n := range those(p.s, 2) {
			if p.s.Jobs[n].Start+p.s.Jobs[n].Limit <= t {
				free += p.s.Jobs[n].Nodes
			}
		}
		if free >= need {
			return t, free - need
		}
	}
}

// shadow is what queue tells.
func (p *plain) shadow() int {
	if p.s.Holder == -1 {
		return 0
	}
	shadow, _ := p.sure(p.s.Jobs[p.s.Holder].Nodes)
	if shadow == p.s.Now {
		return 0
	}
	return shadow
}

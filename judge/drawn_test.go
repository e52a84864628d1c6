package judge

import (
	"slices"
	"strings"
	"testing"

	"backfill/answers"
	"backfill/api"
	"backfill/config"
)

// mixed goes through numbers without an order, always the same ones.
func mixed(seed uint64) uint64 {
	seed += 0x9e3779b97f4a7c15
	seed = (seed ^ seed>>30) * 0xbf58476d1ce4e5b9
	seed = (seed ^ seed>>27) * 0x94d049bb133111eb
	return seed ^ seed>>31
}

type dice struct{ seed uint64 }

func (d *dice) word() uint64 {
	d.seed++
	return mixed(d.seed)
}

func (d *dice) below(n int) int { return int(d.word() % uint64(n)) }

func (d *dice) from(low, high int) int { return low + d.below(high-low+1) }

func (d *dice) oneIn(n int) bool { return d.below(n) == 0 }

func pick[T any](d *dice, l []T) T { return l[d.below(len(l))] }

// some are so many of a list, in its order.
func some(d *dice, l []int, many int) []int {
	l = slices.Clone(l)
	for len(l) > many {
		at := d.below(len(l))
		l = slices.Delete(l, at, at+1)
	}
	return l
}

// turned is a list in any order.
func turned(d *dice, l []int) []int {
	l = slices.Clone(l)
	for n := range l {
		other := d.from(n, len(l)-1)
		l[n], l[other] = l[other], l[n]
	}
	return l
}

// drawnConfig is small enough that all that may happen does.
func drawnConfig(d *dice) api.Config {
	for {
		c := api.Config{
			Nodes: pick(d, []int{1, 2, 3, 4, 4, 6, 8, 70}), Queue: d.from(1, 8), Limit: d.from(1, 9),
			Age: pick(d, []int{1, 1, 2, 7, 40}), Fair: pick(d, []int{0, 0, 1000, 2000, 5000}), Size: pick(d, []int{0, 0, 1, 3, 50}),
			Period: pick(d, []int{1, 2, 3, 5, 10, 30}), Half: pick(d, []int{1, 5, 10, 33}),
		}
		if config.Check(c) == 0 {
			return c
		}
	}
}

// mayBe is an event that has no fault, by what is known plainly: any nodes that are free, any rank of who is pending. Behind faults there may be none such; then it is any that comes near.
func (p *plain) mayBe(d *dice) api.Event {
	pending, overdue := p.those(1), p.overdue()
	switch {
	case p.next() >= 0:
		n := p.next()
		return api.Event{Kind: 2, Job: n, At: p.now, List: some(d, p.free(), p.jobs[n].nodes)}
	case p.open && p.hasPlan && p.plan.Holder != p.holder && p.plan.Holder >= 0:
		return api.Event{Kind: 4, Job: p.plan.Holder, At: p.now}
	case len(overdue) > 0:
		return api.Event{Kind: 3, Job: pick(d, overdue), At: p.now, Nodes: 4}
	case p.fadeWanted:
		return api.Event{Kind: 7, At: p.now}
	case p.passWanted && (len(pending) > 0 || d.oneIn(3)):
		return api.Event{Kind: 5, At: p.now, List: turned(d, pending)}
	}
	return p.fromOutside(d)
}

// fromOutside is an event that a command brings about, or the clock.
func (p *plain) fromOutside(d *dice) api.Event {
	pending, running := p.those(1), p.those(2)
	switch d.below(8) {
	case 0, 1, 2:
		if len(pending) < p.c.Queue {
			return api.Event{Kind: 1, Job: len(p.jobs), At: p.now, Nodes: d.from(1, p.c.Nodes), Limit: d.from(1, p.c.Limit)}
		}
	case 3:
		if len(running) > 0 {
			return api.Event{Kind: 3, Job: pick(d, running), At: p.now, Nodes: pick(d, []int{3, 5})}
		}
	case 4:
		if len(pending) > 0 && d.oneIn(3) {
			return api.Event{Kind: 3, Job: pick(d, pending), At: p.now, Nodes: 6}
		}
	}
	return api.Event{Kind: 6, At: p.now + 1}
}

// number is near to what there is, or far beyond.
func number(d *dice, least, most int) int {
	if d.oneIn(40) {
		return pick(d, []int{1<<63 - 1, 1 << 40, 1 << 32, 4096, 256})
	}
	return max(0, d.from(least, most+1))
}

// anyEvent is one that answers takes, whatever it tells.
func (p *plain) anyEvent(d *dice) api.Event {
	e := api.Event{Kind: d.from(1, 7), At: p.now}
	if e.Kind == 6 {
		e.At++
	}
	if d.oneIn(5) {
		e.At = number(d, p.now-2, p.now+2)
	}
	if e.Kind <= 4 {
		e.Job = number(d, 0, len(p.jobs))
		if l := append(p.those(1), p.those(2)...); len(l) > 0 && e.Kind > 1 && !d.oneIn(4) {
			e.Job = pick(d, l)
		}
	}
	switch e.Kind {
	case 1:
		if d.oneIn(2) {
			e.Job = len(p.jobs)
		}
		e.Nodes, e.Limit = number(d, 0, p.c.Nodes), number(d, 0, p.c.Limit)
	case 2:
		for node := range p.c.Nodes + 2 {
			if d.oneIn(3) {
				e.List = append(e.List, node)
			}
		}
		if p.state(e.Job) == 1 && !d.oneIn(3) {
			e.List = some(d, p.free(), p.jobs[e.Job].nodes)
		}
	case 3:
		e.Nodes = d.from(3, 6)
	case 5:
		e.List = turned(d, p.those(1))
		if d.oneIn(3) {
			e.List = append(e.List, number(d, 0, len(p.jobs)))
		}
	}
	return e
}

// near is a small step from an event: it may be one that answers refuses.
func near(d *dice, e api.Event) api.Event {
	by := pick(d, []int{-2, -1, 1, 1, 2, 1 << 40})
	e.List = slices.Clone(e.List)
	switch d.below(7) {
	case 0:
		e.Job += by
	case 1:
		e.At += by
	case 2:
		e.Nodes += by
	case 3:
		e.Limit += by
	case 4:
		e.List = append(e.List, d.below(10))
	case 5:
		e.List = e.List[:len(e.List)/2]
	case 6:
		if len(e.List) > 0 {
			e.List[d.below(len(e.List))] += by
		}
	}
	return e
}

// drawn is a trace of so many events. One in so many is not what may be; none, if that is 0.
func drawn(d *dice, c api.Config, many, oneIn int) []api.Event {
	p := plainNew(c)
	var l []api.Event
	for range many {
		e := p.mayBe(d)
		if oneIn > 0 && d.oneIn(oneIn) {
			e = p.wrong(d, e)
		}
		l = append(l, e)
		p.hear(e)
	}
	return l
}

// wrong is another event than the one that should come, or one that is near to it.
func (p *plain) wrong(d *dice, e api.Event) api.Event {
	was := e
	switch d.below(4) {
	case 0:
		e = near(d, e)
	case 1:
		e = p.fromOutside(d)
	case 2:
		e = p.anyEvent(d)
	case 3:
		if l := p.those(1); len(l) > 0 {
			n := pick(d, l)
			e = api.Event{Kind: 2, Job: n, At: p.now, List: some(d, p.free(), p.jobs[n].nodes)}
		}
	}
	if _, code := answers.Event(e); code != 0 {
		return was
	}
	return e
}

// agrees holds the faults of a trace against the chapter's words taken plainly, and tells them.
func agrees(t *testing.T, c api.Config, l []api.Event) []api.Fault {
	t.Helper()
	was := deepCopy(l)
	faults, plainly := judged(t, c, l), plainAll(c, l)
	if !slices.Equal(faults, plainly) {
		t.Fatalf("%+v, %s: %v, not %v", c, written(l), faults, plainly)
	}
	if !sameEvents(l, was) {
		t.Fatalf("%s: it has changed", written(l))
	}
	return faults
}

func TestP211DrawnTraces(t *testing.T) {
	var told [9]int
	for seed := range 3000 {
		d := &dice{uint64(seed) << 32}
		c := drawnConfig(d)
		for _, f := range agrees(t, c, drawn(d, c, d.from(1, 120), pick(d, []int{1, 2, 4, 8, 20, 60}))) {
			told[f.Rule]++
		}
	}
	for rule, many := range told {
		if rule > 0 && many < 100 {
			t.Errorf("of rule %d there are %d faults alone", rule, many)
		}
	}
}

// All that is told of an event are its place and rules that there are, and they rise.
func TestP211InOrder(t *testing.T) {
	for seed := range 500 {
		d := &dice{uint64(seed)<<32 + 1<<20}
		c := drawnConfig(d)
		l := drawn(d, c, 100, 2)
		last := api.Fault{At: -1}
		for _, f := range judged(t, c, l) {
			if f.At < last.At || f.At == last.At && f.Rule <= last.Rule || f.At >= len(l) || f.Rule < 1 || f.Rule > 8 {
				t.Fatalf("%s: %v behind %v", written(l), f, last)
			}
			last = f
		}
	}
}

// Any events, also those that answers refuses.
func TestP211AnyEvents(t *testing.T) {
	refusals := 0
	for seed := range 3000 {
		d := &dice{uint64(seed)<<32 + 2<<20}
		c := drawnConfig(d)
		l := drawn(d, c, d.from(1, 30), 3)
		for range d.from(1, 3) {
			at := d.below(len(l))
			l[at] = near(d, l[at])
		}
		isRight := func(e api.Event) bool {
			s, code := answers.Event(e)
			again, code2 := answers.ReadEvent(s)
			return code == 0 && code2 == 0 && sameEvents([]api.Event{e}, []api.Event{again})
		}
		if slices.ContainsFunc(l, func(e api.Event) bool { return !isRight(e) }) {
			refusals++
			refused(t, c, l, 210)
			continue
		}
		agrees(t, c, l)
	}
	if refusals < 500 || refusals > 2500 {
		t.Error(refusals)
	}
}

// R5: no order in which a map is gone through is to be seen.
func TestR5Again(t *testing.T) {
	for seed := range 200 {
		d := &dice{uint64(seed)<<32 + 3<<20}
		c := drawnConfig(d)
		l := drawn(d, c, 150, 10)
		want := judged(t, c, l)
		for range 5 {
			if faults := judged(t, c, deepCopy(l)); !slices.Equal(faults, want) {
				t.Fatalf("%s: %v, then %v", written(l), want, faults)
			}
		}
	}
}

// P21.3: what comes behind is not seen.
func TestP213CutAtEveryPlace(t *testing.T) {
	for seed := range 400 {
		d := &dice{uint64(seed)<<32 + 4<<20}
		c := drawnConfig(d)
		l := drawn(d, c, d.from(1, 120), pick(d, []int{1, 3, 10, 40}))
		all := judged(t, c, l)
		for n := range len(l) + 1 {
			var want []api.Fault
			for _, f := range all {
				if f.At < n {
					want = append(want, f)
				}
			}
			if faults := judged(t, c, l[:n:n]); !slices.Equal(faults, want) {
				t.Fatalf("%+v, %s: the first %d have %v, not %v", c, written(l), n, faults, want)
			}
		}
	}
}

// P21.5: an event that is told twice in a row. (Behind a pass or a tick that is told again, what should have come ahead is missing, too.)
func TestP215Twice(t *testing.T) {
	rules := []string{"", "once", "once rank", "once end", "pin", "clock", "clock", "clock"}
	var asked [8]int
	for seed := range 60 {
		d := &dice{uint64(seed)<<32 + 5<<20}
		c := drawnConfig(d)
		l := drawn(d, c, 120, 0)
		for at, e := range l {
			faults := agrees(t, c, slices.Insert(slices.Clone(l), at+1, e))
			told := rulesAt(faults, at+1)
			if (e.Kind == 5 || e.Kind == 6) && slices.Contains(strings.Fields(told), "clock") {
				told = "clock"
			}
			if told != rules[e.Kind] || faults[0].At != at+1 {
				t.Fatalf("%+v, %s, and %d again: %v", c, written(l[:at+1]), at, faults)
			}
			asked[e.Kind]++
		}
	}
	for kind, many := range asked {
		if kind > 0 && many < 100 {
			t.Errorf("of kind %d there are %d alone", kind, many)
		}
	}
}

// An event that is left out changes nothing ahead of it.
func TestP215LeftOut(t *testing.T) {
	var missed, asked [8]int
	for seed := range 60 {
		d := &dice{uint64(seed)<<32 + 6<<20}
		c := drawnConfig(d)
		l := drawn(d, c, 120, 0)
		for at, e := range l {
			faults := agrees(t, c, slices.Delete(slices.Clone(l), at, at+1))
			if len(faults) > 0 && faults[0].At < at {
				t.Fatalf("%+v, %s, without %d: %v", c, written(l), at, faults)
			}
			asked[e.Kind]++
			if len(faults) > 0 {
				missed[e.Kind]++
			}
		}
	}
	// Most are missed, of each kind; the last ones are not, nor is a pass of nobody.
	for kind := 1; kind <= 7; kind++ {
		if 2*missed[kind] < asked[kind] || asked[kind] < 100 {
			t.Errorf("of kind %d, %d of %d are missed", kind, missed[kind], asked[kind])
		}
	}
}

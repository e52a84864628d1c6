package plan

import (
	"math"
	"slices"
	"strconv"
	"testing"

	"backfill/api"
	"backfill/audit"
	"backfill/config"
	"backfill/core"
	"backfill/ledger"
)

// mixed goes through numbers without an order, always the same ones.
func mixed(seed uint64) uint64 {
	seed += 0x9e3779b97f4a7c15
	seed = (seed ^ seed>>30) * 0xbf58476d1ce4e5b9
	seed = (seed ^ seed>>27) * 0x94d049bb133111eb
	return seed ^ seed>>31
}

type dice struct{ seed uint64 }

func (d *dice) word() uint64 {
	d.seed++
	return mixed(d.seed)
}

func (d *dice) below(n int) int { return int(d.word() % uint64(n)) }

func (d *dice) from(low, high int) int { return low + d.below(high-low+1) }

func (d *dice) oneIn(n int) bool { return d.below(n) == 0 }

func pick[T any](d *dice, l []T) T { return l[d.below(len(l))] }

// drawnConfig is small enough that all that may happen does; some have room for many who wait.
func drawnConfig(d *dice) api.Config {
	for {
		c := api.Config{
			Nodes: pick(d, []int{1, 2, 3, 4, 4, 6, 8, 12, 20, 70}), Queue: pick(d, []int{1, 2, 3, 5, 8, 8, 40, 128}), Limit: d.from(1, 12),
			Age: pick(d, []int{1, 1, 2, 7, 40}), Fair: pick(d, []int{0, 0, 1000, 2000, 5000}), Size: pick(d, []int{0, 0, 1, 3, 50}),
			Period: pick(d, []int{1, 2, 3, 5, 10, 30}), Half: pick(d, []int{1, 5, 10, 33}),
		}
		if config.Check(c) == 0 {
			return c
		}
	}
}

// those are the numbers of the jobs of some States.
func those(s api.State, states ...int) []int {
	var l []int
	for n, j := range s.Jobs {
		if slices.Contains(states, j.State) {
			l = append(l, n)
		}
	}
	return l
}

// drawnCmd is a command of any kind that may be refused, but mostly is not.
func drawnCmd(d *dice, s api.State) api.Cmd {
	c := api.Cmd{Kind: pick(d, []int{1, 1, 1, 1, 1, 1, 1, 1, 2, 3, 3, 4, 4, 4, 4, 4, 5, 6, 7, 8, 9, 10, 11, 12, 13})}
	name := func() string {
		return pick(d, []string{pick(d, s.Accounts).Name, pick(d, s.Accounts).Name, s.Accounts[len(s.Accounts)-1].Name, "n" + strconv.Itoa(d.from(1, 5))})
	}
	job := func(states ...int) int {
		l := those(s, states...)
		if len(l) == 0 || d.oneIn(8) {
			return d.below(len(s.Jobs) + 2)
		}
		return pick(d, l)
	}
	switch c.Kind {
	case 1:
		c.Name, c.Nodes, c.Limit = name(), d.from(1, s.Config.Nodes), d.from(1, s.Config.Limit)
		if d.oneIn(2) {
			c.Nodes = d.from(1, (s.Config.Nodes+3)/4)
		}
	case 2:
		c.Job = job(1, 2)
	case 3:
		c.Job = job(2)
	case 4:
		c.Ticks = pick(d, []int{1, 1, 1, 2, 3, d.from(1, 9), d.from(1, 20)})
		if d.oneIn(40) {
			c.Ticks = pick(d, []int{0, 256, 257})
		}
	case 5:
		c.Name, c.Parent, c.Shares = "n"+strconv.Itoa(len(s.Accounts)), name(), d.from(1, 9)
	case 6:
		c.Name, c.Shares = name(), pick(d, []int{1, 2, 5, 4096, 0})
	case 7:
		c.Name, c.Parent = name(), name()
	case 8, 11:
		c.Name = name()
		if c.Kind == 8 && !d.oneIn(4) {
			c = api.Cmd{Kind: 10}
		}
	case 9:
		c.Job = job(1, 2, 3, 4, 5, 6)
	}
	return c
}

// come is the state behind drawn commands: at its end, now and then, of a queue that is filled up, or between ticks with nodes given back.
func come(t *testing.T, d *dice) api.State {
	t.Helper()
	x, e := core.New(drawnConfig(d))
	if e != 0 {
		t.Fatal(e)
	}
	for n := range d.from(4, 40) {
		c := drawnCmd(d, x.State())
		if n < 3 {
			c = api.Cmd{Kind: 5, Name: "n" + strconv.Itoa(n+1), Parent: pick(d, x.State().Accounts).Name, Shares: d.from(1, 5)}
		}
		x.Do(c)
	}
	flood(d, x, d.below(2))
	if d.oneIn(2) {
		x.Do(api.Cmd{Kind: 4, Ticks: 1})
	}
	if running := those(x.State(), 2); len(running) > 0 && d.oneIn(3) {
		x.Do(api.Cmd{Kind: d.from(2, 3), Job: pick(d, running)})
	}
	if d.oneIn(6) {
		x.Do(api.Cmd{Kind: 4, Ticks: 60})
	}
	return x.State()
}

// flood fills the queue up, by any accounts, so many times, a tick between.
func flood(d *dice, x *core.Core, times int) {
	for n := range times {
		if n > 0 {
			x.Do(api.Cmd{Kind: 4, Ticks: 1})
		}
		s := x.State()
		for range s.Config.Queue {
			nodes := pick(d, []int{1, s.Config.Nodes, d.from(1, s.Config.Nodes)})
			x.Do(api.Cmd{Kind: 1, Name: pick(d, s.Accounts).Name, Nodes: nodes, Limit: pick(d, []int{1, s.Config.Limit, d.from(1, s.Config.Limit)})})
		}
	}
}

// drawnState is one that audit takes: half of them one that a core has come to; the others hardly so: nodes are renamed, anybody who may holds, usages are any, and the clock may be near its end.
func drawnState(t *testing.T, d *dice) api.State {
	t.Helper()
	s := come(t, d)
	if d.oneIn(2) {
		return s
	}
	s.Holder = -1
	for _, n := range those(s, 1) {
		if s.Jobs[n].Submit < s.Now && d.oneIn(2) {
			s.Holder = n
		}
	}
	for n := range s.Accounts {
		if raw := uint64(ledger.Raw(s.Jobs, []int{n}, s.Now)); raw > 0 {
			s.Accounts[n].Usage = pick(d, []uint64{0, raw << 32, raw<<32 - 1, d.word() % (raw << 32)})
		}
	}
	turn := d.below(s.Config.Nodes)
	for n := range s.Jobs {
		for i := range s.Jobs[n].Set {
			s.Jobs[n].Set[i] = (s.Jobs[n].Set[i] + turn) % s.Config.Nodes
		}
		slices.Sort(s.Jobs[n].Set)
	}
	if d.oneIn(2) {
		later(&s, horizon-s.Now-pick(d, []int{0, 1, d.below(10), d.below(40)}))
	}
	if audit.Check(s) != 0 {
		return drawnState(t, d)
	}
	return s
}

// later lets all have been so many ticks later; but none submitted so late that it might have to wait beyond the clock's end.
func later(s *api.State, ticks int) {
	s.Now += ticks
	for n := range s.Jobs {
		j := &s.Jobs[n]
		j.Submit = min(j.Submit+ticks, horizon-config.Bound(s.Config))
		if j.State >= 2 && j.State <= 5 {
			j.Start += ticks
		}
		if j.State > 2 {
			j.End += ticks
		}
	}
}

// stepped is a core of a state that is ticked one by one: who is told to be started by its events, in their order; and how many were killed, how often usages faded, and how many were started at one tick at most.
type stepped struct {
	starts              []api.Rank
	kills, fades, most  int
	refused, backfilled bool
}

func steps(t *testing.T, s api.State, ticks int) stepped {
	t.Helper()
	x, e := core.Load(s)
	if e != 0 {
		t.Fatalf("%+v: %d", s, e)
	}
	var all stepped
	for range ticks {
		a := x.Do(api.Cmd{Kind: 4, Ticks: 1})
		if a.Code != 0 {
			all.refused = true
			break
		}
		var order []int
		once := 0
		for _, e := range a.Events {
			switch e.Kind {
			case 2:
				all.starts = append(all.starts, api.Rank{Job: e.Job, Priority: e.At})
				once++
				// Behind one in rank that was not started.
				first := slices.IndexFunc(order, func(n int) bool { return x.State().Jobs[n].State == 1 })
				all.backfilled = all.backfilled || first >= 0 && slices.Index(order, e.Job) > first
			case 3:
				all.kills++
			case 5:
				order = e.List
			case 7:
				all.fades++
			}
		}
		all.most = max(all.most, once)
	}
	return all
}

func TestP221DrawnStates(t *testing.T) {
	seen := map[string]int{}
	for seed := range uint64(1000) {
		d := &dice{1000 * seed}
		s := drawnState(t, d)
		waiting := len(those(s, 1))
		ticks := pick(d, []int{0, 1, 2, 3, d.below(30), d.below(30), d.below(200), 300})
		all := steps(t, s, ticks)
		l := latest(t, s, ticks)
		if !slices.Equal(l, all.starts) {
			t.Fatalf("%+v, %d: %v, not %v", s, ticks, l, all.starts)
		}
		for name, is := range map[string]bool{
			"nobody waits": waiting == 0, "some wait": waiting > 0 && waiting < 20, "many wait": waiting >= 20,
			"held": s.Holder != -1, "not held": s.Holder == -1 && waiting > 0,
			"killed": all.kills > 0, "faded": all.fades > 0, "refused": all.refused && waiting > 0,
			"many at once": all.most > 2, "backfilled": all.backfilled,
			"left out": len(l) < waiting, "all": len(l) == waiting && waiting > 1, "refused on the way": all.refused && len(l) > 0 && len(l) < waiting,
		} {
			if is {
				seen[name]++
			}
		}
	}
	for _, name := range []string{"nobody waits", "some wait", "many wait", "held", "not held", "killed", "faded", "refused", "many at once", "backfilled", "left out", "all", "refused on the way"} {
		if seen[name] < 15 {
			t.Error(name, seen[name])
		}
	}
}

func TestP222DrawnStates(t *testing.T) {
	seen := map[string]int{}
	for seed := range uint64(3000) {
		s := drawnState(t, &dice{1 << 20 * (seed + 1)})
		_, at, ok := holds(t, s)
		ahead := 0
		for _, n := range those(s, 2) {
			if s.Jobs[n].Start+s.Jobs[n].Limit <= at {
				ahead++
			}
		}
		for name, is := range map[string]bool{
			"nobody": !ok, "at the next tick": at == s.Now+1, "later": at > s.Now+1, "beyond": at > horizon,
			"one": at > s.Now+1 && ahead == 1, "some": at > s.Now+1 && ahead > 1 && ahead < len(those(s, 2)), "all": ahead > 1 && ahead == len(those(s, 2)),
		} {
			if is {
				seen[name]++
			}
		}
	}
	for _, name := range []string{"nobody", "at the next tick", "later", "beyond", "one", "some", "all"} {
		if seen[name] < 15 {
			t.Error(name, seen[name])
		}
	}
}

// heldState is a drawn state in which somebody holds.
func heldState(t *testing.T, d *dice) api.State {
	t.Helper()
	for {
		if s := drawnState(t, d); s.Holder != -1 {
			return s
		}
	}
}

// vow is what Holder has said of a job that held.
type vow struct {
	t *testing.T
	x *core.Core
	// Who held, and by when it is to be started.
	job, by int
	// What Holder said last, of the same job.
	last int
}

func vowOf(t *testing.T, s api.State) *vow {
	t.Helper()
	x, e := core.Load(s)
	job, by, ok := Holder(s)
	if e != 0 || !ok {
		t.Fatalf("%+v: %d", s, e)
	}
	return &vow{t, x, job, by, by}
}

// do does a command, asks P22.3 behind it, and tells whether the job still holds.
func (v *vow) do(c api.Cmd) bool {
	v.t.Helper()
	v.x.Do(c)
	s := v.x.State()
	switch j := s.Jobs[v.job]; j.State {
	case 6:
		return false
	case 1:
		job, at, ok := holds(v.t, s)
		if s.Now >= v.by || !ok || job != v.job || at > v.last {
			v.t.Fatalf("at %d behind %+v: %d was to be started by %d, and is not; %d, by %d, is told", s.Now, c, v.job, v.by, job, at)
		}
		v.last = at
		return true
	default:
		if j.Start > v.by || j.Start > v.last {
			v.t.Fatalf("behind %+v: %d was to be started by %d, lately by %d, and was at %d", c, v.job, v.by, v.last, j.Start)
		}
		return false
	}
}

// isHard tells commands after which nobody holds, or whose ticks leave no room for others.
func (v *vow) isHard(c api.Cmd) bool {
	return c.Kind == 2 && c.Job == v.job || c.Kind == 4 && c.Ticks > 3
}

func TestP223DrawnScripts(t *testing.T) {
	kinds := make([]int, 14)
	dropped, soon, just, stuck, less := 0, 0, 0, 0, 0
	for seed := range uint64(1500) {
		d := &dice{1 << 25 * (seed + 1)}
		v := vowOf(t, heldState(t, d))
		held := true
		for n := 0; held && n < 60; n++ {
			c := drawnCmd(d, v.x.State())
			if d.oneIn(100) {
				c = api.Cmd{Kind: 2, Job: v.job}
			} else if v.isHard(c) && !d.oneIn(8) {
				continue
			}
			kinds[max(0, c.Kind)]++
			held = v.do(c)
			if d.oneIn(30) {
				flood(d, v.x, 1)
			}
		}
		// The clock comes there, tick by tick.
		for held && v.x.State().Now < min(v.by, horizon) {
			held = v.do(api.Cmd{Kind: 4, Ticks: 1})
		}
		switch j := v.x.State().Jobs[v.job]; {
		case j.State == 6:
			dropped++
		case j.State == 1:
			stuck++
		case j.Start < v.by:
			soon++
		default:
			just++
		}
		if v.last < v.by {
			less++
		}
	}
	for kind := 1; kind <= 13; kind++ {
		if kinds[kind] < 50 {
			t.Error("kind", kind, kinds[kind])
		}
	}
	if dropped < 30 || soon < 100 || just < 300 || stuck < 30 || less < 100 {
		t.Error(dropped, soon, just, stuck, less)
	}
}

// At the very tick: whatever came between, also a queue full of what ranks better, one command of ticks to just ahead of the time, and one tick more.
func TestP223AtTheVeryTick(t *testing.T) {
	just := 0
	for seed := range uint64(800) {
		d := &dice{1 << 27 * (seed + 1)}
		v := vowOf(t, heldState(t, d))
		if v.by > horizon {
			continue
		}
		flood(d, v.x, 1)
		held := true
		for n := 0; held && n < 5; n++ {
			c := drawnCmd(d, v.x.State())
			if c.Kind != 4 && !v.isHard(c) {
				held = v.do(c)
			}
		}
		if ahead := v.by - 1 - v.x.State().Now; held && ahead > 0 {
			held = v.do(api.Cmd{Kind: 4, Ticks: ahead})
			flood(d, v.x, 1)
		}
		if held {
			just++
			if v.do(api.Cmd{Kind: 4, Ticks: 1}) {
				t.Fatal("it holds still")
			}
		}
	}
	if just < 200 {
		t.Error(just)
	}
}

// Each kind of what may come between, by itself, from each drawn state: nobody is told a later time.
func TestP223EachCommand(t *testing.T) {
	for seed := range uint64(50) {
		d := &dice{1 << 29 * (seed + 1)}
		s := heldState(t, d)
		cmds := []api.Cmd{{Kind: 9}, {Kind: 10}, {Kind: 12}, {Kind: 13}, {Kind: 5, Name: "new", Parent: "root", Shares: 4096}}
		for n := range s.Jobs {
			if n != s.Holder {
				cmds = append(cmds, api.Cmd{Kind: 2, Job: n}, api.Cmd{Kind: 3, Job: n})
			}
		}
		for _, a := range s.Accounts {
			cmds = append(cmds,
				api.Cmd{Kind: 1, Name: a.Name, Nodes: 1, Limit: 1}, api.Cmd{Kind: 1, Name: a.Name, Nodes: s.Config.Nodes, Limit: s.Config.Limit},
				api.Cmd{Kind: 6, Name: a.Name, Shares: 1}, api.Cmd{Kind: 6, Name: a.Name, Shares: 4096},
				api.Cmd{Kind: 7, Name: a.Name, Parent: "root"}, api.Cmd{Kind: 8, Name: a.Name}, api.Cmd{Kind: 11, Name: a.Name})
		}
		for _, c := range cmds {
			v := vowOf(t, s)
			for held := v.do(c); held && v.x.State().Now < min(v.by, horizon); {
				held = v.do(api.Cmd{Kind: 4, Ticks: 1})
			}
		}
	}
}

// Nothing else comes: the holder is in the plan, by then. (Just then, as nobody ends early.)
func TestP224DrawnStates(t *testing.T) {
	there, beyond := 0, 0
	for seed := range uint64(600) {
		s := heldState(t, &dice{1 << 31 * (seed + 1)})
		job, by, _ := holds(t, s)
		l := latest(t, s, min(by, horizon)-s.Now)
		at := slices.IndexFunc(l, func(r api.Rank) bool { return r.Job == job })
		if by > horizon {
			beyond++
			if at >= 0 {
				t.Fatalf("%+v: %v, but not by %d", s, l, by)
			}
			continue
		}
		there++
		if at < 0 || l[at].Priority != by {
			t.Fatalf("%+v: %v, but %d by %d", s, l, job, by)
		}
		if early := latest(t, s, by-s.Now-1); slices.ContainsFunc(early, func(r api.Rank) bool { return r.Job == job }) {
			t.Fatalf("%+v: %v, but %d by %d", s, early, job, by)
		}
	}
	if there < 300 || beyond < 20 {
		t.Error(there, beyond)
	}
}

func isBeginning(a, b []api.Rank) bool { return len(a) <= len(b) && slices.Equal(a, b[:len(a)]) }

// For all pairs of ticks; and what more ticks bring starts behind the fewer ones' end.
func TestP225AllPairs(t *testing.T) {
	grown, refused := 0, 0
	for seed := range uint64(120) {
		s := drawnState(t, &dice{1 << 33 * (seed + 1)})
		var plans [][]api.Rank
		for ticks := range 45 {
			l, e := Latest(s, ticks)
			if e != 0 {
				t.Fatal(e)
			}
			plans = append(plans, l)
		}
		for more, b := range plans {
			for fewer, a := range plans[:more+1] {
				if !isBeginning(a, b) {
					t.Fatalf("%+v: of %d ticks %v, of %d %v", s, fewer, a, more, b)
				}
				for _, r := range b[len(a):] {
					if r.Priority <= s.Now+fewer || r.Priority > s.Now+more {
						t.Fatalf("%+v: of %d ticks %v, of %d %v", s, fewer, a, more, b)
					}
				}
				if len(a) > 0 && len(a) < len(b) {
					grown++
				}
			}
		}
		if s.Now+44 > horizon {
			refused++
		}
	}
	if grown < 1000 || refused < 10 {
		t.Error(grown, refused)
	}
}

// Any numbers in a state: it is refused, as audit does, or told as the chapter says; nothing panics.
func TestR1SpoiltStates(t *testing.T) {
	taken, not := 0, 0
	for seed := range uint64(3000) {
		d := &dice{1 << 35 * (seed + 1)}
		s := drawnState(t, d)
		for range d.from(1, 2) {
			spoil(d, &s)
		}
		if audit.Check(s) != 0 {
			not++
			refused(t, s)
			continue
		}
		taken++
		ticks := d.below(40)
		latest(t, s, ticks)
		if _, at, ok := Holder(s); ok && at < s.Now+1000 {
			holds(t, s)
		}
	}
	if taken < 200 || not < 1000 {
		t.Error(taken, not)
	}
}

// spoil writes any number into any field.
func spoil(d *dice, s *api.State) {
	fields := []*int{&s.Now, &s.Holder, &s.Config.Nodes, &s.Config.Queue, &s.Config.Limit, &s.Config.Age, &s.Config.Fair, &s.Config.Period}
	a := &s.Accounts[d.below(len(s.Accounts))]
	fields = append(fields, &a.Parent, &a.Shares)
	if len(s.Jobs) > 0 {
		j := &s.Jobs[d.below(len(s.Jobs))]
		fields = append(fields, &j.Account, &j.Nodes, &j.Limit, &j.Submit, &j.State, &j.Start, &j.End)
		if len(j.Set) > 0 {
			fields = append(fields, &j.Set[d.below(len(j.Set))])
		}
	}
	f := pick(d, fields)
	*f = pick(d, []int{*f - 1, *f + 1, *f + 1, 0, 1, 2, -1, 4, 256, 257, 1 << 20, 1<<20 + 1, horizon, horizon + 1, math.MaxInt, math.MinInt, math.MaxInt - *f})
	if d.oneIn(5) {
		a.Usage = pick(d, []uint64{0, 1, a.Usage + 1, math.MaxUint64})
	}
}

// The same is answered alike, whatever order a map is gone through in, and whatever was asked between.
func TestR5AnswersAlike(t *testing.T) {
	for seed := range uint64(60) {
		d := &dice{1 << 37 * (seed + 1)}
		s, other := drawnState(t, d), drawnState(t, d)
		first, _ := Latest(s, 60)
		job, at, ok := Holder(s)
		for range 4 {
			Latest(other, d.below(60))
			Holder(other)
			again, _ := Latest(s, 60)
			if j, a, o := Holder(s); !slices.Equal(first, again) || j != job || a != at || o != ok {
				t.Fatalf("%+v: %v, then %v", s, first, again)
			}
		}
	}
}

package core

import (
	"math/big"
	"slices"
	"strconv"
	"testing"

	"backfill/api"
	"backfill/audit"
	"backfill/config"
	"backfill/ideal"
	"backfill/wide"
)

// mixed goes through numbers without an order, always the same ones.
func mixed(seed uint64) uint64 {
	seed += 0x9e3779b97f4a7c15
	seed = (seed ^ seed>>30) * 0xbf58476d1ce4e5b9
	seed = (seed ^ seed>>27) * 0x94d049bb133111eb
	return seed ^ seed>>31
}

type dice struct{ seed uint64 }

func (d *dice) word() uint64 {
	d.seed++
	return mixed(d.seed)
}

func (d *dice) below(n int) int { return int(d.word() % uint64(n)) }

func (d *dice) from(low, high int) int { return low + d.below(high-low+1) }

func (d *dice) oneIn(n int) bool { return d.below(n) == 0 }

func pick[T any](d *dice, l []T) T { return l[d.below(len(l))] }

// drawnConfig is small enough that all that may happen does.
func drawnConfig(d *dice) api.Config {
	for {
		c := api.Config{
			Nodes: pick(d, []int{1, 2, 3, 4, 4, 8, 70}), Queue: d.from(1, 8), Limit: d.from(1, 9),
			Age: pick(d, []int{1, 1, 2, 7, 40}), Fair: pick(d, []int{0, 0, 1000, 2000, 5000}), Size: pick(d, []int{0, 0, 1, 3, 50}),
			Period: pick(d, []int{1, 2, 5, 10, 30}), Half: pick(d, []int{1, 5, 10, 33}),
		}
		if config.Check(c) == 0 {
			return c
		}
	}
}

// drawnCmd is a command that may be refused, but mostly is not.
func drawnCmd(d *dice, s api.State) api.Cmd {
	c := api.Cmd{Kind: pick(d, []int{1, 1, 1, 1, 1, 1, 1, 2, 3, 3, 4, 4, 4, 4, 4, 4, 4, 5, 6, 7, 8, 9, 10, 11, 12, 13})}
	name := func() string {
		return pick(d, []string{pick(d, s.Accounts).Name, pick(d, s.Accounts).Name, s.Accounts[len(s.Accounts)-1].Name, "n" + strconv.Itoa(d.from(1, 5))})
	}
	job := func(states ...int) int {
		var l []int
		for _, state := range states {
			l = append(l, those(s, state)...)
		}
		if len(l) == 0 || d.oneIn(8) {
			return d.below(len(s.Jobs) + 2)
		}
		return pick(d, l)
	}
	switch c.Kind {
	case 1:
		c.Name, c.Nodes, c.Limit = name(), d.from(1, s.Config.Nodes), d.from(1, s.Config.Limit)
		if d.oneIn(2) {
			c.Nodes = d.from(1, (s.Config.Nodes+3)/4)
		}
		if d.oneIn(20) {
			c.Nodes, c.Limit = c.Nodes*d.below(3), c.Limit*d.below(3)
		}
	case 2:
		c.Job = job(1, 2)
	case 3:
		c.Job = job(2)
	case 4:
		c.Ticks = pick(d, []int{1, 1, 1, 2, 3, d.from(1, 9), d.from(1, 40)})
		if d.oneIn(40) {
			c.Ticks = pick(d, []int{0, 256, 257})
		}
	case 5:
		c.Name, c.Parent, c.Shares = "n"+strconv.Itoa(len(s.Accounts)), name(), d.from(1, 9)
		if d.oneIn(6) {
			c.Name, c.Shares = name(), pick(d, []int{0, 4096, 4097})
		}
	case 6:
		c.Name, c.Shares = name(), pick(d, []int{1, 2, 5, 4096, 0})
	case 7:
		c.Name, c.Parent = name(), name()
	case 8, 11:
		c.Name = name()
		if c.Kind == 8 && !d.oneIn(4) {
			c = api.Cmd{Kind: 10}
		}
	case 9:
		c.Job = job(1, 2, 3, 4, 5, 6)
	}
	if d.oneIn(60) {
		*pick(d, []*int{&c.Kind, &c.Job, &c.Nodes, &c.Ticks, &c.Shares}) = pick(d, []int{-1, 0, 3, most, least})
	}
	return c
}

// watch goes along with a core from its beginning on, tick by tick, and asks what chapter 18 says follows.
type watch struct {
	t *testing.T
	x *Core
	// What was told of the last command's end.
	last api.State
	// The first and the last shadow of who holds, as queue told them.
	first, shadow int
	// Node-ticks of each account's own jobs, by a book that is kept tick by tick, from events alone.
	book    []int
	running map[int]struct{ account, nodes int }
	// What would be without rounding.
	ideal *ideal.Ideal
	// The jobs of the last pass in their rank.
	order []int
	// How much was seen: starts, pins, starts behind who holds, and the longest wait.
	starts, held, filled, waited int
}

func newWatch(t *testing.T, c api.Config) *watch {
	i, _ := ideal.New(c)
	x := begun(t, c)
	return &watch{t: t, x: x, last: x.State(), book: []int{0}, running: map[int]struct{ account, nodes int }{}, ideal: i}
}

// do does a command that is no tick of more than 1.
func (w *watch) do(c api.Cmd) api.Answer {
	w.t.Helper()
	a := done(w.t, w.x, c)
	s := w.x.State()
	if a.Code == 0 && c.Kind == 5 {
		w.book = append(w.book, 0)
		w.ideal.Open()
	}
	for _, e := range a.Events {
		w.note(s, e)
	}
	w.jobs(s)
	w.holder(s, a)
	w.waits(s)
	// A query, or a command that is refused, leaves them as they were.
	if a.Code == 0 && !isQuery(c.Kind) {
		w.raw(s)
		w.rounding(s)
	}
	w.last = s
	return a
}

func (w *watch) note(s api.State, e api.Event) {
	switch e.Kind {
	case 2:
		w.starts++
		w.running[e.Job] = struct{ account, nodes int }{s.Jobs[e.Job].Account, len(e.List)}
		if s.Holder != -1 && slices.Index(w.order, e.Job) > slices.Index(w.order, s.Holder) {
			w.filled++
		}
	case 3:
		delete(w.running, e.Job)
	case 5:
		w.order = e.List
	case 6:
		for _, r := range w.running {
			w.book[r.account] += r.nodes
			w.ideal.Charge(r.account, r.nodes)
		}
	case 7:
		w.ideal.Fade()
	}
}

// jobs is P18.6 (W1).
func (w *watch) jobs(s api.State) {
	w.t.Helper()
	taken := map[int]int{}
	for n, j := range s.Jobs {
		if j.State == 2 {
			if len(j.Set) != j.Nodes || j.Start > s.Now || s.Now >= j.Start+j.Limit {
				w.t.Fatalf("at %d: %+v", s.Now, j)
			}
			for _, node := range j.Set {
				taken[node]++
				if taken[node] > 1 || node < 0 || node >= s.Config.Nodes {
					w.t.Fatalf("at %d: node %d of %d", s.Now, node, n)
				}
			}
		}
		if j.State == 4 && j.End != j.Start+j.Limit {
			w.t.Fatalf("%+v", j)
		}
		if n < len(w.last.Jobs) {
			w.stays(w.last.Jobs[n], j)
		}
	}
	if len(s.Jobs) < len(w.last.Jobs) {
		w.t.Fatal("jobs are gone")
	}
}

// stays asks what of a job may be other than it was.
func (w *watch) stays(was, is api.Job) {
	w.t.Helper()
	ok := was.Account == is.Account && was.Nodes == is.Nodes && was.Limit == is.Limit && was.Submit == is.Submit
	if was.State == 2 {
		ok = ok && was.Start == is.Start && slices.Equal(was.Set, is.Set) && is.State >= 2 && is.State <= 5
	}
	if was.State > 2 {
		ok = ok && was.Start == is.Start && slices.Equal(was.Set, is.Set) && was.State == is.State && was.End == is.End
	}
	if !ok {
		w.t.Fatalf("%+v has become %+v", was, is)
	}
}

// holder is P18.7 (W3).
func (w *watch) holder(s api.State, a api.Answer) {
	w.t.Helper()
	q := w.x.Do(api.Cmd{Kind: 10})
	if h := w.last.Holder; h != -1 && h != s.Holder {
		if j := s.Jobs[h]; j.State != 6 && (j.State != 2 || j.Start != s.Now || j.Start > w.first) {
			w.t.Fatalf("%d held, with the shadow %d; it is %+v", h, w.first, j)
		}
	}
	pinned := slices.ContainsFunc(a.Events, func(e api.Event) bool { return e.Kind == 4 })
	switch {
	case s.Holder == -1:
		if q.Shadow != 0 || q.Holder != -1 || pinned {
			w.t.Fatalf("nobody holds: %+v", q)
		}
	case s.Holder != w.last.Holder:
		// Just pinned: it does not fit.
		if !pinned || q.Shadow <= s.Now {
			w.t.Fatalf("at %d: %+v", s.Now, q)
		}
		w.held++
		w.first, w.shadow = q.Shadow, q.Shadow
	default:
		// Where it is 0 it would fit, and nobody takes that away.
		if pinned || q.Shadow > w.first || q.Shadow > w.shadow || q.Shadow != 0 && q.Shadow <= s.Now {
			w.t.Fatalf("at %d the shadow was %d at first, %d, and is %d", s.Now, w.first, w.shadow, q.Shadow)
		}
		w.shadow = q.Shadow
	}
}

// waits is P18.8 (W4).
func (w *watch) waits(s api.State) {
	w.t.Helper()
	bound := config.Bound(s.Config)
	for n, j := range s.Jobs {
		waited := s.Now - j.Submit
		if j.State == 1 && waited >= bound || j.Start > j.Submit+bound {
			w.t.Fatalf("at %d, bound %d: %d is %+v", s.Now, bound, n, j)
		}
		if j.State == 1 {
			w.waited = max(w.waited, waited)
		}
	}
}

// raw is P18.9 (W6).
func (w *watch) raw(s api.State) {
	w.t.Helper()
	used := uint64(0)
	for n, a := range s.Accounts {
		want := 0
		for k := range s.Accounts {
			if isBelow(s.Accounts, k, n) {
				want += w.book[k]
			}
		}
		if got := w.x.Do(api.Cmd{Kind: 11, Name: a.Name}); got.Raw != want {
			w.t.Fatalf("at %d: raw of %s is %d, not %d", s.Now, a.Name, got.Raw, want)
		}
		used += a.Usage
	}
	if used > config.Most(s.Config) {
		w.t.Fatal(used)
	}
}

func bigOf(n wide.Num) *big.Int {
	high := new(big.Int).Lsh(new(big.Int).SetUint64(n.Hi), 64)
	return high.Add(high, new(big.Int).SetUint64(n.Lo))
}

// rounding is W5.
func (w *watch) rounding(s api.State) {
	w.t.Helper()
	num, den := config.Off(s.Config)
	off := new(big.Rat).SetFrac(bigOf(num), bigOf(den))
	for _, r := range w.x.Do(api.Cmd{Kind: 10}).Ranks {
		lo, hi, scale := w.ideal.Priority(s.Accounts, s.Now, s.Jobs[r.Job])
		low := new(big.Rat).SetFrac(bigOf(lo), bigOf(scale))
		high := new(big.Rat).SetFrac(bigOf(hi), bigOf(scale))
		p := new(big.Rat).SetInt64(int64(r.Priority))
		if p.Cmp(low.Sub(low, off)) < 0 || p.Cmp(high.Add(high, off)) > 0 {
			w.t.Fatalf("%+v is not within %s and %s", r, low, high)
		}
	}
}

// each does a command, a tick of more than 1 as so many of 1: P18.11.
func (w *watch) each(c api.Cmd) api.Answer {
	w.t.Helper()
	s := w.x.State()
	if c.Kind != 4 || c.Ticks <= 1 || c.Ticks > 256 || s.Now+c.Ticks > horizon || c != (api.Cmd{Kind: 4, Ticks: c.Ticks}) {
		return w.do(c)
	}
	var events []api.Event
	for range c.Ticks {
		events = append(events, w.do(api.Cmd{Kind: 4, Ticks: 1}).Events...)
	}
	return api.Answer{Events: events}
}

// agrees lets a core and the chapter's words do the same.
func agrees(t *testing.T, x *Core, p *plain, c api.Cmd) api.Answer {
	t.Helper()
	a, want := done(t, x, c), p.do(c)
	if !sameAnswer(a, want) {
		t.Fatalf("%+v: %+v, not %+v", c, a, want)
	}
	if got := x.State(); !sameState(got, p.s) {
		t.Fatalf("%+v: %+v, not %+v", c, got, p.s)
	}
	return a
}

// script plays drawn commands to a new core: held against the chapter's words, watched tick by tick, and, from a drawn place on, beside a clone and one that was loaded.
func script(t *testing.T, seed uint64, many int) *watch {
	t.Helper()
	d := &dice{seed}
	c := drawnConfig(d)
	x, p, w := begun(t, c), plainNew(c), newWatch(t, c)
	var others []*Core
	for n := range many {
		do := drawnCmd(d, p.s)
		if n < 3 {
			do = api.Cmd{Kind: 5, Name: "n" + strconv.Itoa(n+1), Parent: pick(d, p.s.Accounts).Name, Shares: d.from(1, 5)}
		}
		a := agrees(t, x, p, do)
		if b := w.each(do); !sameAnswer(a, b) || !sameState(x.State(), w.x.State()) {
			t.Fatalf("%+v: at once %+v, tick by tick %+v", do, a, b)
		}
		for _, y := range others {
			if b := y.Do(do); !sameAnswer(a, b) || !sameState(x.State(), y.State()) {
				t.Fatalf("%+v: %+v, not %+v", do, b, a)
			}
		}
		if d.oneIn(many/2) && len(others) < 6 {
			others = append(others, x.Clone(), loaded(t, x.State()))
		}
	}
	return w
}

func TestP186ToP1811DrawnScripts(t *testing.T) {
	starts, held, filled, near := 0, 0, 0, 0
	for seed := range uint64(400) {
		w := script(t, 1000*seed, 60)
		starts, held, filled = starts+w.starts, held+w.held, filled+w.filled
		if 2*w.waited > w.x.State().Config.Queue*w.x.State().Config.Limit {
			near++
		}
	}
	if starts < 2000 || held < 500 || filled < 100 || near < 10 {
		t.Error(starts, held, filled, near)
	}
}

func FuzzScripts(f *testing.F) {
	for seed := range uint64(5) {
		f.Add(seed, uint8(30))
	}
	f.Fuzz(func(t *testing.T, seed uint64, many uint8) { script(t, seed, 4+int(many)) })
}

// The queue is kept full of what ranks best against who waits: each tick new jobs, of accounts without usage, small or of all nodes.
func TestP188Flood(t *testing.T) {
	longest := 0
	for seed := range uint64(30) {
		d := &dice{1 << 40 * (seed + 1)}
		c := drawnConfig(d)
		c.Nodes, c.Queue, c.Limit = min(c.Nodes, 8), min(c.Queue, 4), min(c.Limit, 6)
		if config.Check(c) != 0 {
			c = fair()
		}
		w := newWatch(t, c)
		for n := 1; n <= 6; n++ {
			w.do(api.Cmd{Kind: 5, Name: "n" + strconv.Itoa(n), Parent: "root", Shares: pick(d, []int{1, 100, 4096})})
		}
		for range 100 {
			for range c.Queue {
				w.do(api.Cmd{Kind: 1, Name: "n" + strconv.Itoa(d.from(1, 6)), Nodes: pick(d, []int{1, c.Nodes, d.from(1, c.Nodes)}), Limit: pick(d, []int{1, c.Limit, d.from(1, c.Limit)})})
			}
			if d.oneIn(4) {
				w.do(api.Cmd{Kind: 6, Name: "n" + strconv.Itoa(d.from(1, 6)), Shares: pick(d, []int{1, 100, 4096})})
			}
			if running := those(w.last, 2); len(running) > 0 && d.oneIn(5) {
				w.do(api.Cmd{Kind: 3, Job: pick(d, running)})
			}
			w.do(api.Cmd{Kind: 4, Ticks: 1})
		}
		longest = max(longest, w.waited)
	}
	if longest < 10 {
		t.Error(longest)
	}
}

// drawnState is one that audit takes and that hardly a core has come to: nodes are renamed, anybody who may holds, usages are any, and the clock may be near its end.
func drawnState(t *testing.T, d *dice) api.State {
	t.Helper()
	c := drawnConfig(d)
	x := begun(t, c)
	for n := range d.from(5, 40) {
		do := drawnCmd(d, x.State())
		if n < 3 {
			do = api.Cmd{Kind: 5, Name: "n" + strconv.Itoa(n+1), Parent: pick(d, x.State().Accounts).Name, Shares: d.from(1, 5)}
		}
		x.Do(do)
	}
	s := x.State()
	s.Holder = -1
	for _, n := range those(s, 1) {
		if s.Jobs[n].Submit < s.Now && d.oneIn(2) {
			s.Holder = n
		}
	}
	for n := range s.Accounts {
		if raw := uint64(rawOf(s, n)); raw > 0 {
			s.Accounts[n].Usage = pick(d, []uint64{0, raw * q, raw*q - 1, d.word() % (raw * q)})
		}
	}
	turn := d.below(s.Config.Nodes)
	for n := range s.Jobs {
		for i := range s.Jobs[n].Set {
			s.Jobs[n].Set[i] = (s.Jobs[n].Set[i] + turn) % s.Config.Nodes
		}
		slices.Sort(s.Jobs[n].Set)
	}
	if d.oneIn(2) {
		later(&s, horizon-config.Bound(c)-s.Now+d.from(-20, 20))
	}
	if audit.Check(s) != 0 {
		return drawnState(t, d)
	}
	return s
}

// later lets all have been so many ticks later.
func later(s *api.State, ticks int) {
	s.Now += ticks
	for n := range s.Jobs {
		j := &s.Jobs[n]
		j.Submit += ticks
		if j.State >= 2 && j.State <= 5 {
			j.Start += ticks
		}
		if j.State > 2 {
			j.End += ticks
		}
	}
}

// From any state that audit takes (P17.5; done asks it behind each command): the core does what the chapter says.
func TestP175DrawnStates(t *testing.T) {
	refused := map[api.Errno]int{}
	for seed := range uint64(400) {
		d := &dice{1 << 30 * (seed + 1)}
		s := drawnState(t, d)
		x, p := loaded(t, s), &plain{deepCopy(s)}
		for range 40 {
			a := agrees(t, x, p, drawnCmd(d, p.s))
			refused[a.Code]++
			if d.oneIn(20) {
				x = loaded(t, x.State())
			}
			if d.oneIn(20) {
				x = x.Clone()
			}
		}
	}
	for _, e := range []api.Errno{0, 61, 62, 63, 64, 66, 67, 84, 180, 181, 182, 183, 184, 185, 186, 187, 189} {
		if refused[e] < 5 {
			t.Errorf("%d is told %d times", e, refused[e])
		}
	}
}

// Each kind of command, from states at audit's edges, leads to one that audit takes.
func TestP175AtTheEdges(t *testing.T) {
	for _, s := range []api.State{edges(), states(), three(), full(64), much()} {
		for _, c := range right() {
			for job := range len(s.Jobs) + 1 {
				x := loaded(t, s)
				if c.Kind == 2 || c.Kind == 3 {
					c.Job = job
				}
				done(t, x, c)
				done(t, x, api.Cmd{Kind: 4, Ticks: 1 + job})
			}
		}
	}
}

// A load of State answers everything alike, behind each command.
func TestP183LoadOfState(t *testing.T) {
	for seed := range uint64(100) {
		d := &dice{7777 * (seed + 1)}
		s := drawnState(t, d)
		x := loaded(t, s)
		for range 25 {
			y := loaded(t, x.State())
			c := drawnCmd(d, x.State())
			if a, b := done(t, x, c), done(t, y, c); !sameAnswer(a, b) || !sameState(x.State(), y.State()) {
				t.Fatalf("%+v: %+v, not %+v", c, b, a)
			}
		}
	}
}

// Whatever commands are told, each is answered, and what is refused changes nothing (done asks it).
func TestP1810AnyCommands(t *testing.T) {
	d := &dice{99}
	numbers := []int{0, 1, 2, 3, 4, 5, 9, 10, 11, 255, 256, 257, 4096, 4097, horizon, most, -1, least, -horizon}
	names := []string{"", "root", "a", "b", "nobody", "a b", "\x00", "ä"}
	for range 3000 {
		x := loaded(t, edges())
		for range 4 {
			c := api.Cmd{Kind: d.from(-1, 15), Name: pick(d, names), Parent: pick(d, names)}
			for _, field := range []*int{&c.Shares, &c.Nodes, &c.Limit, &c.Job, &c.Ticks} {
				if d.oneIn(2) {
					*field = pick(d, numbers)
				}
			}
			// Mostly without what is not its own, so that not all is ErrVerbCmd.
			if d.oneIn(4) {
				done(t, x, c)
			} else {
				done(t, x, own(c))
			}
		}
	}
}

// own leaves a command no fields but its kind's.
func own(c api.Cmd) api.Cmd {
	is := func(kinds ...int) bool { return slices.Contains(kinds, c.Kind) }
	if !is(1, 5, 6, 7, 8, 11) {
		c.Name = ""
	}
	if !is(5, 7) {
		c.Parent = ""
	}
	if !is(5, 6) {
		c.Shares = 0
	}
	if !is(1) {
		c.Nodes, c.Limit = 0, 0
	}
	if !is(2, 3, 9) {
		c.Job = 0
	}
	if !is(4) {
		c.Ticks = 0
	}
	return c
}

// The same commands are answered alike, whatever order maps are gone through in.
func TestR5AnswersAlike(t *testing.T) {
	for seed := range uint64(10) {
		var cmds []api.Cmd
		var told []api.Answer
		for round := range 4 {
			d := &dice{31 * seed}
			x := begun(t, drawnConfig(d))
			for n := range 60 {
				if round == 0 {
					cmds = append(cmds, drawnCmd(d, x.State()))
				}
				a := x.Do(cmds[n])
				if round == 0 {
					told = append(told, a)
				} else if !sameAnswer(a, told[n]) {
					t.Fatalf("%+v: %+v, not %+v", cmds[n], a, told[n])
				}
			}
		}
	}
}

package core

import (
	"slices"
	"strconv"
	"strings"
	"testing"

	"backfill/answers"
	"backfill/api"
	"backfill/decay"
	"backfill/prio"
)

func usageOf(x *Core, account int) uint64 { return x.State().Accounts[account].Usage }

// textOf are the lines of events.
func textOf(t *testing.T, l []api.Event) []string {
	t.Helper()
	var lines []string
	for _, e := range l {
		line, code := answers.Event(e)
		if code != 0 {
			t.Fatalf("%+v: %d", e, code)
		}
		lines = append(lines, line)
	}
	return lines
}

func TestP185Nothing(t *testing.T) {
	x := begun(t, example(), "account a root 1")
	says(t, x, "tick 3", "ok", "tick 1", "tick 2", "tick 3")
	if s := x.State(); s.Now != 3 || s.Holder != -1 || len(s.Jobs) != 0 {
		t.Error(s)
	}
}

// A job is charged from the tick behind its start on, the one in which it is killed too.
func TestP185Charged(t *testing.T) {
	x := begun(t, example(), "account a root 1", "account b a 1", "submit b 3 4", "submit a 1 2", "submit b 1 9")
	for now, want := range []struct{ a, b int }{{0, 0}, {0, 0}, {1, 3}, {2, 6}, {2, 10}, {2, 14}, {2, 15}, {2, 16}} {
		if got := [2]uint64{usageOf(x, 1), usageOf(x, 2)}; got != [2]uint64{uint64(want.a) * q, uint64(want.b) * q} {
			t.Errorf("at %d: %v, not %v", now, got, want)
		}
		if usageOf(x, 0) != 0 {
			t.Error("the root is charged")
		}
		does(t, x, "tick 1")
	}
}

// Who is stopped, completed or dropped between ticks is charged no more.
func TestP185ChargedNoMore(t *testing.T) {
	for _, how := range []string{"cancel 0", "complete 0"} {
		x := begun(t, example(), "account a root 1", "submit a 4 9", "tick 3")
		does(t, x, how, "tick 5")
		if u := usageOf(x, 1); u != 8*q {
			t.Error(how, u)
		}
		does(t, x, "submit a 2 5", "cancel 1", "tick 5")
		if u := usageOf(x, 1); u != 8*q {
			t.Error(how, u)
		}
	}
}

// Started and completed at one time: it has run for no tick.
func TestP185StartedAndEndedAtOnce(t *testing.T) {
	for how, state := range map[string]string{"cancel 0": "stopped", "complete 0": "completed"} {
		x := begun(t, example(), "account a root 1", "submit a 4 9", "tick 1")
		says(t, x, how, "ok", "end 0 1 "+state)
		says(t, x, "job 0", "job 1 4 9 0 "+state+" 1 1 0 1 2 3")
		says(t, x, "tick 2", "ok", "tick 2", "tick 3")
		says(t, x, "usage a", "usage 0 0 9223372036854775808")
	}
}

// Killed ones come by their numbers, whichever was started first.
func TestP185Killed(t *testing.T) {
	x := begun(t, example(), "account a root 1", "submit a 3 2", "submit a 2 4", "submit a 1 6", "tick 1")
	says(t, x, "tick 6", "ok", "tick 2", "pass 2 1", "tick 3", "end 0 3 killed", "pass 3 1", "start 1 3 0 1",
		"tick 4", "tick 5", "tick 6", "tick 7", "end 1 7 killed", "end 2 7 killed")
	says(t, x, "nodes", "free 4")
	says(t, x, "job 1", "job 1 2 4 0 killed 3 7 0 1")
	says(t, x, "complete 1", "error 183")
	// One that is loaded is killed likewise.
	for limit := 1; limit <= 10; limit++ {
		s := three()
		s.Now = 50
		s.Jobs = []api.Job{{Account: 1, Nodes: 1, Limit: limit, Submit: 1, State: 2, Start: 50, Set: []int{3}}}
		y := loaded(t, s)
		events := textOf(t, done(t, y, cmd(t, "tick 12")).Events)
		if at := slices.Index(events, "end 0 "+strconv.Itoa(50+limit)+" killed"); at != limit {
			t.Error(limit, events)
		}
	}
}

// In the tick in which a job is killed another one starts on its nodes.
func TestP185KilledAheadOfThePass(t *testing.T) {
	x := begun(t, example(), "account a root 1", "submit a 4 3", "submit a 4 2", "submit a 2 9", "tick 3")
	says(t, x, "tick 1", "ok", "tick 4", "end 0 4 killed", "pass 4 1 2", "start 1 4 0 1 2 3", "pin 2 4")
	says(t, x, "tick 2", "ok", "tick 5", "pass 5 2", "tick 6", "end 1 6 killed", "pass 6 2", "start 2 6 0 1")
}

// A pass may start what fits on the lowest free nodes, not in one piece.
func TestP185LowestNodes(t *testing.T) {
	c := example()
	c.Nodes = 8
	x := begun(t, c, "account a root 1", "submit a 2 9", "submit a 1 9", "submit a 2 9", "submit a 1 9", "submit a 2 9", "tick 1", "complete 1", "complete 4", "cancel 0", "submit a 4 1", "submit a 1 1")
	says(t, x, "tick 1", "ok", "tick 2", "pass 2 5 6", "start 5 2 0 1 2 6", "start 6 2 7")
}

// Period and how often it fades: at just its multiples.
func TestP185Faded(t *testing.T) {
	for _, period := range []int{1, 2, 3, 7, 10} {
		c := example()
		c.Period, c.Half = period, 5
		x := begun(t, c, "account a root 1", "submit a 3 10", "tick 1")
		factor, _ := decay.Factor(period, 5)
		want := uint64(0)
		for now := 2; now < 30; now++ {
			if now <= 11 {
				want = decay.Charge(want, 3)
			}
			events := []string{"tick " + strconv.Itoa(now)}
			if now == 11 {
				events = append(events, "end 0 11 killed")
			}
			if now%period == 0 {
				want = decay.Fade(want, factor)
				events = append(events, "decay "+strconv.Itoa(now))
			}
			says(t, x, "tick 1", append([]string{"ok"}, events...)...)
			if u := usageOf(x, 1); u != want {
				t.Errorf("period %d, at %d: %d, not %d", period, now, u, want)
			}
		}
	}
	// The clock counts, and not how many ticks a core has seen.
	s := three()
	s.Now = 99
	says(t, loaded(t, s), "tick 2", "ok", "tick 100", "decay 100", "tick 101")
}

// All in one tick, in its order; the pass ranks by usages that were charged, and faded, in it.
func TestP185Order(t *testing.T) {
	c := api.Config{Nodes: 4, Queue: 8, Limit: 10, Age: 46, Fair: 1000, Size: 0, Period: 10, Half: 10}
	ranks := func(s api.State) (l []int) {
		for _, r := range prio.Ranks(s) {
			l = append(l, r.Job)
		}
		return l
	}
	x := begun(t, c, "account a root 1", "account b root 1", "submit a 1 9", "submit a 3 9", "tick 4", "submit a 2 5", "tick 5", "submit b 3 5")
	before := x.State()
	says(t, x, "tick 1", "ok", "tick 10", "end 0 10 killed", "end 1 10 killed", "decay 10", "pass 10 2 3", "start 2 10 0 1", "pin 3 10")
	if u := usageOf(x, 1); u != 36*q/2 {
		t.Error(u)
	}
	// By what was used up to then, not faded, another one were first: so the order of the parts is seen.
	before.Now = 10
	before.Accounts[1].Usage = 36 * q
	if l := ranks(before); !slices.Equal(l, []int{3, 2}) {
		t.Error(l)
	}
	// Likewise by what is charged: with all charged but in the last tick, the ranks at the next one are others.
	charged := false
	for wait := 1; wait < 10; wait++ {
		y := begun(t, c, "account a root 1", "account b root 1", "submit a 4 10", "tick 1", "submit a 1 1", "tick "+strconv.Itoa(wait), "submit b 1 1")
		for now := 2 + wait; now < 10; now++ {
			late := y.State()
			late.Now = now
			a := done(t, y, cmd(t, "tick 1"))
			order := a.Events[1].List
			if a.Events[1].Kind != 5 || !slices.Equal(order, ranks(y.State())) {
				t.Fatalf("%+v", a)
			}
			charged = charged || !slices.Equal(order, ranks(late))
		}
	}
	if !charged {
		t.Error("no charge is seen in a rank")
	}
}

// The ranks of a pass are those of its clock.
func TestP185RanksOfThePass(t *testing.T) {
	x := begun(t, fair(), "account a root 1", "account b a 1", "account c root 2", "submit a 4 10", "tick 1", "submit b 1 3", "submit c 2 3", "tick 3", "submit a 4 3", "submit c 1 1", "submit b 3 1")
	for range 30 {
		before := x.Clone()
		a := done(t, x, cmd(t, "tick 1"))
		i := slices.IndexFunc(a.Events, func(e api.Event) bool { return e.Kind == 5 })
		if i < 0 {
			continue
		}
		// As they are behind the tick, if nobody had been started or was pinned.
		s := x.State()
		for n := range s.Jobs {
			if before.State().Jobs[n].State == 1 {
				s.Jobs[n].State = 1
			}
		}
		var want []int
		for _, r := range prio.Ranks(s) {
			want = append(want, r.Job)
		}
		if got := a.Events[i].List; !slices.Equal(got, want) {
			t.Errorf("%v, not %v", got, want)
		}
	}
}

func TestP185PassOnlyIfJobsArePending(t *testing.T) {
	x := begun(t, example(), "account a root 1", "submit a 1 2", "submit a 1 1", "cancel 1")
	says(t, x, "tick 4", "ok", "tick 1", "pass 1 0", "start 0 1 0", "tick 2", "tick 3", "end 0 3 killed", "tick 4")
	does(t, x, "submit a 1 2", "cancel 2")
	says(t, x, "tick 1", "ok", "tick 5")
}

// A pin is told only where another job holds than before.
func TestP185Pin(t *testing.T) {
	x := begun(t, example(), "account a root 1", "submit a 3 3", "submit a 2 3", "submit a 3 3", "submit a 4 3")
	says(t, x, "tick 3", "ok",
		"tick 1", "pass 1 0 1 2 3", "start 0 1 0 1 2", "pin 1 1",
		"tick 2", "pass 2 1 2 3",
		"tick 3", "pass 3 1 2 3")
	// The one that held is started, and another one is pinned in the same pass.
	says(t, x, "tick 1", "ok", "tick 4", "end 0 4 killed", "pass 4 1 2 3", "start 1 4 0 1", "pin 2 4")
	// Who holds is dropped: nobody holds till the next pass.
	says(t, x, "cancel 2", "ok", "end 2 4 dropped")
	says(t, x, "queue", "holder -1 0", "3 4")
	says(t, x, "tick 1", "ok", "tick 5", "pass 5 3", "pin 3 5")
	says(t, x, "tick 1", "ok", "tick 6", "pass 6 3")
	says(t, x, "tick 1", "ok", "tick 7", "end 1 7 killed", "pass 7 3", "start 3 7 0 1 2 3")
	if h := x.State().Holder; h != -1 {
		t.Error(h)
	}
	// A holder that is loaded was pinned before, and comes first, whatever ranks ahead of it.
	s := three()
	s.Jobs = []api.Job{{Account: 1, Nodes: 3, Limit: 9, Submit: 1, State: 1}, {Account: 1, Nodes: 2, Limit: 9, Submit: 1, State: 1}, {Account: 1, Nodes: 4, Limit: 9, Submit: 1, State: 1}}
	s.Holder = 1
	says(t, loaded(t, s), "tick 1", "ok", "tick 6", "pass 6 0 1 2", "start 1 6 0 1", "pin 0 6")
}

// The holder comes first though another one ranks ahead of it, and nobody who would delay it is started.
func TestP185HolderFirst(t *testing.T) {
	c := example()
	c.Size = 100
	x := begun(t, c, "account a root 1", "submit a 3 5", "tick 1", "submit a 2 5", "tick 1")
	says(t, x, "queue", "holder 1 6", "1 201")
	does(t, x, "submit a 4 5", "submit a 1 3", "submit a 1 4")
	says(t, x, "tick 1", "ok", "tick 3", "pass 3 2 1 3 4", "start 3 3 3")
	says(t, x, "tick 3", "ok", "tick 4", "pass 4 2 1 4", "tick 5", "pass 5 2 1 4",
		"tick 6", "end 0 6 killed", "end 3 6 killed", "pass 6 2 1 4", "start 1 6 0 1", "start 4 6 2", "pin 2 6")
}

// All events of a tick have its clock.
func TestP185At(t *testing.T) {
	x := begun(t, fair(), "account a root 1", "submit a 3 4", "submit a 2 4", "submit a 1 9", "submit a 4 4", "tick 7", "submit a 4 1")
	now := 7
	for _, e := range done(t, x, cmd(t, "tick 40")).Events {
		if e.Kind == 6 {
			now++
		}
		if e.At != now {
			t.Errorf("%+v at %d", e, now)
		}
	}
	if now != 47 {
		t.Error(now)
	}
}

// A tick of n is n ticks of 1.
func TestP1811Ticks(t *testing.T) {
	begin := func() *Core {
		return begun(t, fair(), "account a root 1", "account b root 3", "submit a 3 4", "submit b 2 10", "submit a 1 9", "tick 3", "submit b 4 7", "submit b 3 1", "submit a 2 2", "submit a 1 10")
	}
	one := begin()
	var events []api.Event
	for n := 1; n <= 256; n++ {
		events = append(events, done(t, one, cmd(t, "tick 1")).Events...)
		if n > 40 && n < 255 {
			continue
		}
		many := begin()
		a := done(t, many, cmd(t, "tick "+strconv.Itoa(n)))
		if !slices.Equal(textOf(t, a.Events), textOf(t, events)) || !sameState(one.State(), many.State()) {
			t.Fatalf("%d: %s, not %s", n, strings.Join(textOf(t, a.Events), ", "), strings.Join(textOf(t, events), ", "))
		}
	}
}

// The bound is reached but for Lead + 1 + Limit, by jobs of all nodes (W4).
func TestP188NotSlack(t *testing.T) {
	for _, c := range []api.Config{example(), {Nodes: 2, Queue: 5, Limit: 7, Age: 3, Fair: 0, Size: 0, Period: 5, Half: 9}, smallest()} {
		x := begun(t, c, "account a root 1")
		for range c.Queue {
			if a := done(t, x, api.Cmd{Kind: 1, Name: "a", Nodes: c.Nodes, Limit: c.Limit}); a.Code != 0 {
				t.Fatal(a)
			}
		}
		does(t, x, "tick "+strconv.Itoa(1+(c.Queue-1)*c.Limit))
		for n, j := range x.State().Jobs {
			if j.Start != 1+n*c.Limit {
				t.Errorf("%d is started at %d", n, j.Start)
			}
		}
	}
}

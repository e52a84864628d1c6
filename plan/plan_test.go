package plan

import (
	"math"
	"reflect"
	"slices"
	"strconv"
	"strings"
	"testing"

	"backfill/api"
	"backfill/audit"
	"backfill/core"
	"backfill/verbs"
)

// Commands are written here as lines (layer 8), errors and limits as their numbers.

const horizon = 1 << 40

// example is the config of DOC.md's examples: its Bound is 81.
func example() api.Config {
	return api.Config{Nodes: 4, Queue: 8, Limit: 10, Age: 1, Fair: 0, Size: 0, Period: 100, Half: 100}
}

// long has the longest jobs that may be.
func long() api.Config {
	c := example()
	c.Limit = 1 << 20
	return c
}

func deepCopy(s api.State) api.State {
	s.Accounts, s.Jobs = slices.Clone(s.Accounts), slices.Clone(s.Jobs)
	for n := range s.Jobs {
		s.Jobs[n].Set = slices.Clone(s.Jobs[n].Set)
	}
	return s
}

// orNil makes no difference between a list without anything and none (R3).
func orNil[T any](l []T) []T {
	if len(l) == 0 {
		return nil
	}
	return l
}

func sameState(a, b api.State) bool {
	for _, s := range []*api.State{&a, &b} {
		*s = deepCopy(*s)
		s.Accounts, s.Jobs = orNil(s.Accounts), orNil(s.Jobs)
		for n := range s.Jobs {
			s.Jobs[n].Set = orNil(s.Jobs[n].Set)
		}
	}
	return reflect.DeepEqual(a, b)
}

// behind is the state behind some lines, none of which is refused.
func behind(t *testing.T, s api.State, lines ...string) api.State {
	t.Helper()
	x, e := core.Load(s)
	if e != 0 {
		t.Fatalf("%+v: %d", s, e)
	}
	for _, line := range lines {
		c, e := verbs.Parse(line)
		if e != 0 {
			t.Fatal(line, e)
		}
		if a := x.Do(c); a.Code != 0 {
			t.Fatal(line, a.Code)
		}
	}
	return x.State()
}

// begun has an account `a` with 1 share below the root, and some lines behind it.
func begun(t *testing.T, c api.Config, lines ...string) api.State {
	t.Helper()
	return behind(t, stands(c, 0, -1), lines...)
}

// stands is a state of some jobs, all of the account `a`.
func stands(c api.Config, now, holder int, jobs ...api.Job) api.State {
	accounts := []api.Account{{Name: "root", Parent: -1, Shares: 1}, {Name: "a", Parent: 0, Shares: 1}}
	return api.State{Config: c, Now: now, Accounts: accounts, Jobs: jobs, Holder: holder}
}

func pending(submit, nodes, limit int) api.Job {
	return api.Job{Account: 1, Nodes: nodes, Limit: limit, Submit: submit, State: 1}
}

// running was submitted just ahead of its start.
func running(start, limit int, set ...int) api.Job {
	return api.Job{Account: 1, Nodes: len(set), Limit: limit, Submit: start - 1, State: 2, Start: start, Set: set}
}

// ended was running.
func ended(state, start, end, limit int, set ...int) api.Job {
	j := running(start, limit, set...)
	j.State, j.End = state, end
	return j
}

// inLine lets jobs be submitted no earlier than those ahead of them: it is their numbers that the tests name.
func inLine(jobs ...api.Job) []api.Job {
	for n := len(jobs) - 1; n > 0; n-- {
		jobs[n-1].Submit = min(jobs[n-1].Submit, jobs[n].Submit)
	}
	return jobs
}

// numbers are first, first + 1 .., so many.
func numbers(first, many int) []int {
	l := make([]int, many)
	for i := range l {
		l[i] = first + i
	}
	return l
}

// written is a plan as the tests write it: "1 6, 3 6".
func written(l []api.Rank) string {
	var words []string
	for _, r := range l {
		words = append(words, strconv.Itoa(r.Job)+" "+strconv.Itoa(r.Priority))
	}
	return strings.Join(words, ", ")
}

func tellsLatest(t *testing.T, s api.State, ticks int, want string) {
	t.Helper()
	if got := written(latest(t, s, ticks)); got != want {
		t.Errorf("%+v, %d: %q, not %q", s, ticks, got, want)
	}
}

// tellsHolder wants the time; 0: nobody holds.
func tellsHolder(t *testing.T, s api.State, job, at int) {
	t.Helper()
	if j, a, ok := holds(t, s); j != job || a != at || ok != (at > 0) {
		t.Errorf("%+v: %d %d %v, not %d %d", s, j, a, ok, job, at)
	}
}

func TestErrorNumber(t *testing.T) {
	if api.ErrPlanArg != 220 || api.MaxPlan != 65536 || api.Horizon != horizon {
		t.Error(api.ErrPlanArg, api.MaxPlan, api.Horizon)
	}
}

// filled is the state of the chapter's examples.
func filled(t *testing.T) api.State {
	t.Helper()
	return begun(t, example(), "submit a 3 5", "submit a 3 5", "submit a 1 5", "submit a 1 6", "tick 1")
}

func TestExamples(t *testing.T) {
	s := filled(t)
	tellsHolder(t, s, 1, 6)
	tellsLatest(t, s, 4, "")
	tellsLatest(t, s, 5, "1 6, 3 6")
	tellsLatest(t, s, 0, "")
	tellsHolder(t, behind(t, s, "complete 0"), 1, 2)
	for _, x := range []struct {
		s     api.State
		ticks int
	}{{s, -1}, {s, 65537}, {api.State{}, 1}} {
		if l, e := Latest(x.s, x.ticks); e != api.ErrPlanArg || len(l) != 0 {
			t.Error(x.ticks, l, e)
		}
	}
}

// The examples of DOC.md that tell who is started.
func TestExamplesOfTheWhole(t *testing.T) {
	tellsLatest(t, begun(t, example(), "submit a 2 5"), 1, "0 1")
	jobs := []string{"submit a 3 5", "submit a 3 5", "submit a 1 5", "submit a 1 6"}
	tellsLatest(t, begun(t, example(), jobs...), 6, "0 1, 2 1, 1 6, 3 6")
	jobs[2] = "submit a 1 9"
	tellsLatest(t, begun(t, example(), jobs...), 10, "0 1, 2 1, 1 6, 3 10")
	all := slices.Repeat([]string{"submit a 4 10"}, 8)
	tellsLatest(t, begun(t, example(), all...), 71, "0 1, 1 11, 2 21, 3 31, 4 41, 5 51, 6 61, 7 71")
	tellsLatest(t, begun(t, example(), all...), 70, "0 1, 1 11, 2 21, 3 31, 4 41, 5 51, 6 61")
	// `b` has the better fair share: it ranks first.
	c := example()
	c.Fair = 1000
	s := begun(t, c, "account b root 3", "submit a 4 9", "tick 10", "submit a 4 2", "submit b 4 2")
	tellsLatest(t, s, 9, "2 11, 1 13")
}

// spoils are what audit refuses, each error by one state: each is a step from one that is taken, and in which somebody holds.
func spoils() []struct {
	e     api.Errno
	spoil func(s *api.State)
} {
	return []struct {
		e     api.Errno
		spoil func(s *api.State)
	}{
		{170, func(s *api.State) { s.Config.Nodes = 257 }},
		{171, func(s *api.State) { s.Now = -1 }},
		{172, func(s *api.State) { s.Accounts[1].Name = "root" }},
		{173, func(s *api.State) { s.Accounts[1].Usage = 1<<63 + 1 }},
		{174, func(s *api.State) { s.Jobs[0].Limit = 11 }},
		{175, func(s *api.State) { s.Config.Queue = 1 }},
		{176, func(s *api.State) { s.Jobs[2].Set = []int{2, 3} }},
		{177, func(s *api.State) { s.Holder = 0 }},
	}
}

// sound is what the spoils begin with: who holds has to wait for both that run.
func sound() api.State {
	jobs := inLine(running(4, 10, 0, 1, 2), pending(5, 4, 5), running(7, 5, 3), pending(8, 1, 1))
	jobs[2].Nodes = 1
	return stands(example(), 9, 1, jobs...)
}

func TestP221AndP222StatesThatAreRefused(t *testing.T) {
	tellsHolder(t, sound(), 1, 14)
	tellsLatest(t, sound(), 10, "3 12, 1 14")
	for _, x := range spoils() {
		s := sound()
		if x.e == 176 {
			s.Jobs[2].Nodes = 2
		}
		x.spoil(&s)
		if e := audit.Check(s); e != x.e {
			t.Errorf("audit tells %d, not %d", e, x.e)
		}
		refused(t, s)
	}
	refused(t, api.State{})
	refused(t, api.State{Holder: -1})
}

// The error is one, whatever is refused: of a state that is refused each number of ticks is, and of a number that is refused each state.
func TestP221Ticks(t *testing.T) {
	// Nobody waits: what is told hangs on the number alone.
	states := []api.State{stands(example(), 0, -1), stands(long(), 9, -1, running(4, 1<<20, 0)), sound(), stands(example(), horizon, -1)}
	for n, s := range states {
		for _, ticks := range []int{-1, 65537, math.MinInt, math.MaxInt, -65536, 1 << 32, 1<<32 + 1, 256 - 1<<63} {
			if l, e := Latest(s, ticks); e != 220 || len(l) != 0 {
				t.Errorf("%d, %d: %v %d", n, ticks, l, e)
			}
		}
		for _, ticks := range []int{0, 1, 255, 256, 257, 65535, 65536} {
			if l, e := Latest(s, ticks); e != 0 || n != 2 && len(l) > 0 {
				t.Errorf("%d, %d: %v %d", n, ticks, l, e)
			}
		}
	}
	tellsLatest(t, stands(example(), 0, -1, pending(0, 1, 1)), 0, "")
	tellsLatest(t, stands(example(), 0, -1, pending(0, 1, 1)), 1, "0 1")
}

// A plan of the most ticks is done whole: who is started by its last one is told, who would be by the next one is not.
func TestP221TheMostTicks(t *testing.T) {
	for _, x := range []struct {
		end, ticks int
		want       string
	}{
		{9 + 65536, 65536, "1 65545"},
		{9 + 65536, 65535, ""},
		{9 + 65537, 65536, ""},
		{9 + 65535, 65536, "1 65544, 2 65545"},
		{9 + 65534, 65536, "1 65543, 2 65544"},
	} {
		s := stands(long(), 9, 1, inLine(running(8, x.end-8, 0, 1, 2, 3), pending(7, 1, 1), pending(7, 4, 9))...)
		l, e := Latest(s, x.ticks)
		if got := written(l); got != x.want || e != 0 {
			t.Errorf("%+v: %q, %d", x, got, e)
		}
	}
}

// Who is started at one tick is told in the order in which it is: who holds first, whatever its rank; then by rank, not by number; then those that are filled in behind the one that is pinned then.
func TestP221Order(t *testing.T) {
	c := example()
	c.Nodes, c.Age = 8, 1
	s := stands(c, 9, 5, inLine(
		running(2, 8, numbers(0, 8)...), pending(1, 2, 5), pending(1, 6, 9), pending(2, 1, 3), pending(3, 1, 9), pending(8, 3, 4),
	)...)
	// At 10 five nodes are left behind 5; 1 fits; 2 does not, and is sure to at 14; 3 ends by then, 4 does not. At 14 it is 4 that is pinned.
	tellsLatest(t, s, 0, "")
	tellsLatest(t, s, 1, "5 10, 1 10, 3 10")
	tellsLatest(t, s, 4, "5 10, 1 10, 3 10")
	tellsLatest(t, s, 5, "5 10, 1 10, 3 10, 2 14")
	tellsLatest(t, s, 6, "5 10, 1 10, 3 10, 2 14, 4 15")
	tellsLatest(t, s, 65536, "5 10, 1 10, 3 10, 2 14, 4 15")
	// With weight for nodes the ranks are turned: the greater one first.
	c.Size = 100
	s = stands(c, 9, -1, pending(1, 1, 9), pending(1, 2, 9), pending(1, 3, 9), pending(1, 5, 3), pending(1, 4, 9))
	tellsLatest(t, s, 1, "3 10, 2 10")
	tellsLatest(t, s, 12, "3 10, 2 10, 4 13, 0 13, 1 19")
	// One that takes an extra node is filled in.
	s = stands(c, 9, -1, pending(1, 6, 9), pending(1, 5, 9), pending(1, 1, 10), pending(1, 2, 10))
	tellsLatest(t, s, 1, "0 10, 3 10")
}

// A job that is started in a tick may end in a later one of the same plan: it is told once, and makes room.
func TestP221KilledOnTheWay(t *testing.T) {
	s := stands(example(), 5, -1, pending(1, 4, 1), pending(2, 4, 2), pending(3, 4, 3), pending(4, 4, 1))
	tellsLatest(t, s, 6, "0 6, 1 7, 2 9")
	tellsLatest(t, s, 7, "0 6, 1 7, 2 9, 3 12")
	tellsLatest(t, s, 300, "0 6, 1 7, 2 9, 3 12")
}

// What fades on the way counts when the one that holds is started, and the next one is pinned: `b` has used more than `a` will have by then, but that was long ago. With a period that is not come to it still counts whole.
func TestP221FadedOnTheWay(t *testing.T) {
	for period, want := range map[int]string{10: "2 590, 4 591, 3 592", 1000: "2 590, 3 591, 4 592"} {
		c := api.Config{Nodes: 4, Queue: 8, Limit: 1000, Age: 1, Fair: 1 << 20, Size: 0, Period: period, Half: period}
		s := stands(c, 500, 2, inLine(
			ended(4, 100, 200, 100, 0, 1, 2, 3), running(400, 190, 0, 1, 2, 3), pending(499, 4, 1), pending(499, 4, 1), pending(499, 4, 1),
		)...)
		s.Accounts = append(s.Accounts, api.Account{Name: "b", Parent: 0, Shares: 1, Usage: 400 << 32})
		s.Jobs[0].Account, s.Jobs[4].Account = 2, 2
		tellsLatest(t, s, 92, want)
	}
}

// A tick that is refused ends the plan: what was started up to the clock's end is told.
func TestP221Horizon(t *testing.T) {
	early := horizon - 81
	at := func(now, end int) api.State {
		s := stands(example(), now, 1, inLine(running(end-10, 10, 0, 1, 2), pending(early, 2, 5), pending(early, 1, 10), pending(early, 1, 1))...)
		for n := range s.Jobs {
			s.Jobs[n].Submit = min(s.Jobs[n].Submit, early)
		}
		return s
	}
	last := strconv.Itoa(horizon)
	// The holder is started by the very last tick.
	s := at(horizon-2, horizon)
	tellsHolder(t, s, 1, horizon)
	for _, ticks := range []int{2, 3, 256, 257, 65536} {
		// 2 takes the node that is extra; 3 is the first one that does not fit then.
		tellsLatest(t, s, ticks, "2 "+strconv.Itoa(horizon-1)+", 1 "+last+", 3 "+last)
	}
	tellsLatest(t, s, 1, "2 "+strconv.Itoa(horizon-1))
	// The holder is beyond it, and left out; who was started up to there is told.
	s = at(horizon-2, horizon+1)
	tellsHolder(t, s, 1, horizon+1)
	for _, ticks := range []int{3, 4, 300, 65536} {
		tellsLatest(t, s, ticks, "2 "+strconv.Itoa(horizon-1))
	}
	// At the end itself no tick is done.
	s = at(horizon, horizon+1)
	tellsHolder(t, s, 1, horizon+1)
	for _, ticks := range []int{0, 1, 2, 65536} {
		tellsLatest(t, s, ticks, "")
	}
	// One that would fit now would be started beyond the end.
	s = stands(example(), horizon, 0, pending(early, 2, 5))
	tellsHolder(t, s, 0, horizon+1)
	tellsLatest(t, s, 1, "")
	s.Now--
	tellsHolder(t, s, 0, horizon)
	tellsLatest(t, s, 1, "0 "+last)
	tellsLatest(t, s, 2, "0 "+last)
}

func TestP221NobodyWaits(t *testing.T) {
	for _, s := range []api.State{
		stands(example(), 0, -1),
		stands(example(), 9, -1, running(4, 10, 0, 1)),
		stands(example(), 9, -1, inLine(ended(3, 2, 4, 9, 0), ended(4, 2, 5, 3, 1), ended(5, 3, 6, 9, 2), api.Job{Account: 1, Nodes: 2, Limit: 2, Submit: 2, State: 6, End: 4})...),
	} {
		for _, ticks := range []int{0, 1, 50} {
			tellsLatest(t, s, ticks, "")
		}
		tellsHolder(t, s, 0, 0)
	}
}

// Where nobody waits any more the ticks that are left are not done: else there would be something made for each of them.
func TestP221NoTicksForNobody(t *testing.T) {
	for _, s := range []api.State{
		stands(long(), 9, -1, running(4, 1<<20, 0, 1)),
		stands(long(), 9, -1, pending(3, 4, 2), pending(4, 4, 1<<20)),
		stands(long(), 9, 1, inLine(running(4, 10, 0), pending(3, 4, 2), pending(4, 1, 1<<20))...),
	} {
		if many := testing.AllocsPerRun(1, func() { Latest(s, 65536) }); many > 65536 {
			t.Errorf("%+v: %v", s, many)
		}
	}
}

// A queue that is full, on the greatest machine: all are told, one behind the other.
func TestP221FullQueue(t *testing.T) {
	c := api.Config{Nodes: 256, Queue: 128, Limit: 2, Age: 1, Period: 100, Half: 100}
	s := stands(c, 5, -1, slices.Repeat([]api.Job{pending(1, 256, 2)}, 128)...)
	l := latest(t, s, 300)
	for n, r := range l {
		if r != (api.Rank{Job: n, Priority: 6 + 2*n}) {
			t.Fatal(n, r)
		}
	}
	if len(l) != 128 || len(latest(t, s, 254)) != 127 || len(latest(t, s, 255)) != 128 {
		t.Error(len(l))
	}
	// One node each: all at once.
	s.Jobs = slices.Repeat([]api.Job{pending(1, 1, 2)}, 128)
	if l := latest(t, s, 1); len(l) != 128 || l[127] != (api.Rank{Job: 127, Priority: 6}) {
		t.Error(l)
	}
}

func TestP222NobodyHolds(t *testing.T) {
	s := filled(t)
	s.Holder = -1
	tellsHolder(t, s, 0, 0)
	tellsHolder(t, behind(t, filled(t), "cancel 1"), 0, 0)
	tellsHolder(t, stands(example(), 9, -1, pending(1, 4, 5)), 0, 0)
}

// Who would fit now waits for the next tick, and for no later one.
func TestP222WouldFitNow(t *testing.T) {
	for _, nodes := range []int{1, 2, 3} {
		// Three nodes are free; the one that runs goes on for long.
		tellsHolder(t, stands(example(), 9, 1, inLine(running(9, 10, 2), pending(1, nodes, 9))...), 1, 10)
	}
	tellsHolder(t, stands(example(), 9, 1, inLine(running(9, 10, 2), pending(1, 4, 9))...), 1, 19)
	tellsHolder(t, stands(example(), 9, 0, pending(8, 4, 1)), 0, 10)
	// One that ends by the next tick is as good as gone.
	tellsHolder(t, stands(example(), 9, 1, inLine(running(5, 5, 0, 1, 2, 3), pending(1, 4, 9))...), 1, 10)
}

// The time hangs on one, some or all of those that run.
func TestP222HangsOnThoseThatRun(t *testing.T) {
	// One node each; they end at 14, 12, 17 and 14.
	four := []api.Job{running(8, 6, 3), running(7, 5, 0), running(9, 8, 1), running(5, 9, 2)}
	for nodes, at := range map[int]int{1: 12, 2: 14, 3: 14, 4: 17} {
		tellsHolder(t, stands(example(), 9, 4, inLine(append(slices.Clone(four), pending(8, nodes, 1))...)...), 4, at)
	}
	// Without the first one node is free; who holds stands ahead of them all.
	for nodes, at := range map[int]int{1: 10, 2: 12, 3: 14, 4: 17} {
		tellsHolder(t, stands(example(), 9, 0, inLine(append([]api.Job{pending(1, nodes, 1)}, four[1:]...)...)...), 0, at)
	}
	// More nodes than one come free at a time.
	wide := []api.Job{running(8, 6, 1, 2), running(8, 4, 0), running(8, 10, 3)}
	for nodes, at := range map[int]int{1: 12, 2: 14, 3: 14, 4: 18} {
		tellsHolder(t, stands(example(), 9, 3, inLine(append(slices.Clone(wide), pending(8, nodes, 1))...)...), 3, at)
	}
	// All end at the same time.
	same := []api.Job{running(8, 6, 1, 2), running(9, 5, 0), running(4, 10, 3)}
	for nodes := 1; nodes <= 4; nodes++ {
		tellsHolder(t, stands(example(), 9, 3, inLine(append(slices.Clone(same), pending(8, nodes, 1))...)...), 3, 14)
	}
}

// Only those that run have nodes: not those that have ended ahead of their limits, nor others that wait.
func TestP222OnlyThoseThatRun(t *testing.T) {
	jobs := inLine(
		ended(3, 7, 8, 10, 0, 1, 2, 3), ended(5, 8, 9, 10, 0, 1, 2, 3), ended(4, 1, 7, 6, 0, 1, 2, 3),
		api.Job{Account: 1, Nodes: 4, Limit: 10, Submit: 1, State: 6, End: 4}, pending(1, 4, 10),
		running(9, 4, 1), pending(1, 3, 10), pending(1, 2, 10), pending(1, 4, 10),
	)
	for holder, at := range map[int]int{4: 13, 6: 10, 7: 10, 8: 13} {
		tellsHolder(t, stands(example(), 9, holder, jobs...), holder, at)
	}
}

// The greatest machine, and the longest jobs.
func TestP222Greatest(t *testing.T) {
	c := api.Config{Nodes: 256, Queue: 128, Limit: 1 << 20, Age: 1, Period: 100, Half: 100}
	jobs := inLine(running(9, 1<<20, numbers(0, 255)...), running(8, 1<<20, 255), pending(7, 1, 1), pending(7, 2, 1), pending(7, 255, 1), pending(7, 256, 1))
	for holder, at := range map[int]int{2: 8 + 1<<20, 3: 9 + 1<<20, 4: 9 + 1<<20, 5: 9 + 1<<20} {
		s := stands(c, 9, holder, jobs...)
		if j, a, ok := Holder(s); j != holder || a != at || !ok {
			t.Error(holder, j, a, ok)
		}
	}
}

// Where the holder's time is just not too far it is in a plan; where it is too far it may be left out.
func TestP224Edges(t *testing.T) {
	for _, x := range []struct {
		now, end int
		there    bool
	}{
		{9, 9 + 65536, true},
		{9, 9 + 65537, false},
		{horizon - 200000, horizon - 200000 + 65536, true},
		{horizon - 65536, horizon, true},
		{horizon - 65536, horizon + 1, false},
		{horizon - 5, horizon, true},
		{horizon - 5, horizon + 1, false},
		{horizon - 5, horizon + 1000000, false},
		{horizon, horizon + 1, false},
	} {
		c := api.Config{Nodes: 4, Queue: 1, Limit: 1 << 20, Age: 1, Period: 100, Half: 100}
		start := max(8, x.end-1<<20)
		s := stands(c, x.now, 1, running(start, x.end-start, 1, 2), pending(0, 3, 1))
		s.Jobs[0].Submit = 0
		if j, a, ok := Holder(s); j != 1 || a != x.end || !ok {
			t.Fatal(x, j, a, ok)
		}
		want := ""
		if x.there {
			want = "1 " + strconv.Itoa(x.end)
		}
		for _, ticks := range []int{min(65536, x.end-x.now), 65536} {
			if l, e := Latest(s, ticks); e != 0 || written(l) != want {
				t.Error(x, ticks, l, e)
			}
		}
	}
}

func TestR3NoListAndAnEmptyOne(t *testing.T) {
	a, b := stands(example(), 9, -1), stands(example(), 9, -1)
	a.Jobs, b.Jobs = nil, []api.Job{}
	if e := audit.Check(a); e != 0 {
		t.Fatal(e)
	}
	tellsLatest(t, a, 5, "")
	tellsLatest(t, b, 5, "")
	tellsHolder(t, a, 0, 0)
	tellsHolder(t, b, 0, 0)
	s := filled(t)
	for n := range s.Jobs {
		if len(s.Jobs[n].Set) == 0 {
			s.Jobs[n].Set = [][]int{nil, {}}[n%2]
		}
	}
	tellsLatest(t, s, 5, "1 6, 3 6")
	tellsHolder(t, s, 1, 6)
	for _, l := range [][]api.Account{nil, {}} {
		s.Accounts = l
		refused(t, s)
	}
}

// roomy is a list with room behind its end, in which a mark stands.
func roomy[T any](l []T, mark T) []T {
	l = append(slices.Clone(l), mark, mark)
	return l[:len(l)-2]
}

// Nothing is written into what is handed in, nor behind it.
func TestR4HandedInStaysAsItWas(t *testing.T) {
	marked := func() api.State {
		s := sound()
		s.Accounts = roomy(s.Accounts, api.Account{Name: "mark", Usage: 77})
		s.Jobs = roomy(s.Jobs, api.Job{Account: 77, Set: []int{7}})
		for n := range s.Jobs {
			s.Jobs[n].Set = roomy(s.Jobs[n].Set, 77)
		}
		return s
	}
	s, want := marked(), marked()
	if got := written(latest(t, s, 20)); got != "3 12, 1 14" {
		t.Error(got)
	}
	tellsHolder(t, s, 1, 14)
	for _, x := range spoils() {
		spoilt := deepCopy(s)
		x.spoil(&spoilt)
		Latest(spoilt, 3)
		Holder(spoilt)
	}
	whole := func(s api.State) api.State {
		s.Accounts, s.Jobs = s.Accounts[:len(s.Accounts)+2], s.Jobs[:len(s.Jobs)+2]
		s.Jobs = slices.Clone(s.Jobs)
		for n := range s.Jobs[:len(s.Jobs)-2] {
			s.Jobs[n].Set = s.Jobs[n].Set[:len(s.Jobs[n].Set)+2]
		}
		return s
	}
	if !reflect.DeepEqual(whole(s), whole(want)) {
		t.Errorf("%+v, not %+v", whole(s), whole(want))
	}
}

// What is written into an answer, or behind it, or into what was handed in, is seen in no other answer.
func TestR4AnswersAreTheCallers(t *testing.T) {
	s := stands(example(), 9, -1, slices.Repeat([]api.Job{pending(1, 1, 3)}, 7)...)
	kept, _ := Latest(s, 50)
	again, _ := Latest(s, 50)
	if len(kept) != 7 || !slices.Equal(kept, again) {
		t.Fatal(kept, again)
	}
	want := slices.Clone(kept)
	again = again[:cap(again)]
	for n := range again {
		again[n] = api.Rank{Job: -1, Priority: -1}
	}
	third, _ := Latest(s, 50)
	if !slices.Equal(kept, want) || !slices.Equal(third, want) {
		t.Error(kept, third, want)
	}
	s.Jobs[0].Nodes, s.Jobs[3].State, s.Accounts[1].Name = 4, 9, ""
	if !slices.Equal(kept, want) || !slices.Equal(third, want) {
		t.Error(kept, third, want)
	}
}

// Nothing stays from one call to the next one.
func TestR5OneAnswer(t *testing.T) {
	a, b := filled(t), sound()
	for range 20 {
		tellsLatest(t, a, 50, "1 6, 3 6")
		tellsHolder(t, a, 1, 6)
		tellsLatest(t, b, 20, "3 12, 1 14")
		tellsHolder(t, b, 1, 14)
		refused(t, api.State{})
	}
}

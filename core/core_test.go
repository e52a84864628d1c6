package core

import (
	"math"
	"reflect"
	"slices"
	"strconv"
	"strings"
	"testing"

	"backfill/answers"
	"backfill/api"
	"backfill/audit"
	"backfill/config"
	"backfill/verbs"
)

// Commands and answers are written here as lines (layers 8 and 9), errors as their numbers.

const (
	q       = uint64(1) << 32
	horizon = 1 << 40
	least   = math.MinInt
	most    = math.MaxInt
)

// example is the config of DOC.md's examples: its Bound is 81.
func example() api.Config {
	return api.Config{Nodes: 4, Queue: 8, Limit: 10, Age: 1, Fair: 0, Size: 0, Period: 100, Half: 100}
}

// greatest has as many nodes, as long a queue and as long jobs as may be.
func greatest() api.Config {
	return api.Config{Nodes: 256, Queue: 128, Limit: 1 << 20, Age: 1, Fair: 0, Size: 1 << 20, Period: 100, Half: 100}
}

func smallest() api.Config {
	return api.Config{Nodes: 1, Queue: 1, Limit: 1, Age: 1, Fair: 0, Size: 0, Period: 1, Half: 1}
}

// fair is the example's, with weights and a period of 10.
func fair() api.Config {
	return api.Config{Nodes: 4, Queue: 8, Limit: 10, Age: 2, Fair: 1000, Size: 3, Period: 10, Half: 10}
}

func configs() []api.Config { return []api.Config{example(), greatest(), smallest(), fair()} }

func account(name string, parent int) api.Account {
	return api.Account{Name: name, Parent: parent, Shares: 1}
}

// numbers are first, first + 1 .., so many.
func numbers(first, many int) []int {
	l := make([]int, many)
	for i := range l {
		l[i] = first + i
	}
	return l
}

func deepCopy(s api.State) api.State {
	s.Accounts, s.Jobs = slices.Clone(s.Accounts), slices.Clone(s.Jobs)
	for n := range s.Jobs {
		s.Jobs[n].Set = slices.Clone(s.Jobs[n].Set)
	}
	return s
}

// orNil makes no difference between a list without anything and none (R3).
func orNil[T any](l []T) []T {
	if len(l) == 0 {
		return nil
	}
	return l
}

func sameState(a, b api.State) bool {
	for _, s := range []*api.State{&a, &b} {
		*s = deepCopy(*s)
		s.Accounts, s.Jobs = orNil(s.Accounts), orNil(s.Jobs)
		for n := range s.Jobs {
			s.Jobs[n].Set = orNil(s.Jobs[n].Set)
		}
	}
	return reflect.DeepEqual(a, b)
}

func sameAnswer(a, b api.Answer) bool {
	for _, x := range []*api.Answer{&a, &b} {
		x.Events, x.Ranks, x.Job.Set = slices.Clone(orNil(x.Events)), orNil(x.Ranks), orNil(x.Job.Set)
		for i := range x.Events {
			x.Events[i].List = orNil(x.Events[i].List)
		}
	}
	return reflect.DeepEqual(a, b)
}

func begun(t *testing.T, c api.Config, lines ...string) *Core {
	t.Helper()
	x, e := New(c)
	if e != 0 || x == nil {
		t.Fatal(c, e)
	}
	does(t, x, lines...)
	return x
}

func loaded(t *testing.T, s api.State) *Core {
	t.Helper()
	x, e := Load(s)
	if e != 0 || x == nil {
		t.Fatalf("%+v: %d", s, e)
	}
	return x
}

func cmd(t *testing.T, line string) api.Cmd {
	t.Helper()
	c, e := verbs.Parse(line)
	if e != 0 {
		t.Fatal(line, e)
	}
	return c
}

// isQuery tells whether a kind of command asks only.
func isQuery(kind int) bool { return kind >= 9 && kind <= 13 }

// done lets a core do a command, and asks what holds of each one: the form of its answer (whose fields are zero where chapter 9 says so), P18.10 and P17.5.
func done(t *testing.T, x *Core, c api.Cmd) api.Answer {
	t.Helper()
	before := x.State()
	a := x.Do(c)
	kind := c.Kind
	if a.Code != 0 {
		// Of an error the form is the same for each kind; this one may be none.
		kind = 1
	}
	if e := answers.Check(kind, a); e != 0 {
		t.Fatalf("%+v: %+v has not the form of an answer", c, a)
	}
	behind := x.State()
	if (a.Code != 0 || isQuery(c.Kind)) && !sameState(before, behind) {
		t.Fatalf("%+v has changed %+v to %+v", c, before, behind)
	}
	if e := audit.Check(behind); e != 0 {
		t.Fatalf("%+v has led to %+v, of which audit says %d", c, behind, e)
	}
	return a
}

// does lets a core do lines that are not refused.
func does(t *testing.T, x *Core, lines ...string) {
	t.Helper()
	for _, line := range lines {
		if a := done(t, x, cmd(t, line)); a.Code != 0 {
			t.Fatal(line, a.Code)
		}
	}
}

// says holds what a core answers to a line against the lines of an answer.
func says(t *testing.T, x *Core, line string, want ...string) {
	t.Helper()
	c := cmd(t, line)
	text, e := answers.Print(c.Kind, done(t, x, c))
	if whole := strings.Join(want, "\n") + "\n"; e != 0 || text != whole {
		t.Errorf("%s: %q, not %q", line, text, whole)
	}
}

// refuses holds what a core answers against an error.
func refuses(t *testing.T, x *Core, c api.Cmd, want api.Errno) {
	t.Helper()
	if a := done(t, x, c); !sameAnswer(a, api.Answer{Code: want}) {
		t.Errorf("%+v: %+v, not %d", c, a, want)
	}
}

func jobOf(t *testing.T, x *Core, n int) api.Job {
	t.Helper()
	return done(t, x, api.Cmd{Kind: 9, Job: n}).Job
}

func TestErrorNumbers(t *testing.T) {
	got := []api.Errno{
		api.ErrCoreHorizon, api.ErrCoreAccount, api.ErrCoreJob, api.ErrCoreState, api.ErrCoreClosed,
		api.ErrCoreNodes, api.ErrCoreLimit, api.ErrCoreQueue, api.ErrCoreRecords, api.ErrCoreTicks,
	}
	for i, e := range got {
		if int(e) != 180+i {
			t.Errorf("%d, not %d", e, 180+i)
		}
	}
}

func TestChapterExamples(t *testing.T) {
	x := begun(t, example())
	says(t, x, "account a root 1", "account 1")
	says(t, x, "submit a 3 5", "job 0", "submit 0 0 3 5")
	says(t, x, "submit a 3 5", "job 1", "submit 1 0 3 5")
	says(t, x, "submit a 1 5", "job 2", "submit 2 0 1 5")
	says(t, x, "submit a 1 6", "job 3", "submit 3 0 1 6")
	says(t, x, "tick 1", "ok", "tick 1", "pass 1 0 1 2 3", "start 0 1 0 1 2", "start 2 1 3", "pin 1 1")
	says(t, x, "queue", "holder 1 6", "1 1", "3 1")
	says(t, x, "tick 5", "ok",
		"tick 2", "pass 2 1 3", "tick 3", "pass 3 1 3", "tick 4", "pass 4 1 3", "tick 5", "pass 5 1 3",
		"tick 6", "end 0 6 killed", "end 2 6 killed", "pass 6 1 3", "start 1 6 0 1 2", "start 3 6 3")
	says(t, x, "complete 1", "ok", "end 1 6 completed")
	says(t, x, "complete 1", "error 183")
	says(t, x, "cancel 0", "error 183")
	says(t, x, "cancel 9", "error 182")
	for _, name := range []string{"a", "root"} {
		if a := done(t, x, cmd(t, "usage "+name)); a.Raw != 20 || a.Usage != 20*q {
			t.Error(name, a)
		}
	}
	says(t, x, "submit root 1 1", "error 181")
	says(t, x, "submit b 1 1", "error 181")
	says(t, x, "submit a 5 1", "error 185")
	says(t, x, "submit a 1 11", "error 186")
}

// The ten examples of DOC.md.
func TestExamplesOfTheWhole(t *testing.T) {
	one := begun(t, example(), "account a root 1")
	says(t, one, "submit a 2 5", "job 0", "submit 0 0 2 5")
	says(t, one, "tick 1", "ok", "tick 1", "pass 1 0", "start 0 1 0 1")
	says(t, one, "tick 5", "ok", "tick 2", "tick 3", "tick 4", "tick 5", "tick 6", "end 0 6 killed")

	// The second one is the chapter's.
	three := begun(t, example(), "account a root 1", "submit a 3 5", "submit a 3 5", "submit a 1 9")
	says(t, three, "tick 1", "ok", "tick 1", "pass 1 0 1 2", "start 0 1 0 1 2", "start 2 1 3", "pin 1 1")
	says(t, three, "complete 0", "ok", "end 0 1 completed")
	says(t, three, "nodes", "free 3")
	says(t, three, "tick 1", "ok", "tick 2", "pass 2 1", "start 1 2 0 1 2")

	five := begun(t, example(), "account a root 1", "submit a 3 5", "submit a 3 5", "submit a 4 5", "tick 1")
	says(t, five, "cancel 1", "ok", "end 1 1 dropped")
	says(t, five, "queue", "holder -1 0", "2 1")
	says(t, five, "tick 1", "ok", "tick 2", "pass 2 2", "pin 2 2")

	six := begun(t, example(), "account a root 1", "submit a 1 5", "tick 6")
	says(t, six, "complete 0", "error 183")

	short := example()
	short.Queue = 1
	seven := begun(t, short, "account a root 1", "submit a 1 1")
	says(t, seven, "submit a 1 1", "error 187")
	does(t, seven, "tick 1")
	says(t, seven, "submit a 1 1", "job 1", "submit 1 1 1 1")

	eight := begun(t, example(), "account a root 1")
	for range 8 {
		does(t, eight, "submit a 4 10")
	}
	does(t, eight, "tick 71")
	if j := jobOf(t, eight, 7); j.Start != 71 {
		t.Error(j)
	}

	shares := example()
	shares.Fair = 1000
	nine := begun(t, shares, "account a root 3", "account b root 1", "submit a 2 10", "submit b 2 10", "tick 10", "submit b 4 1", "submit a 4 1")
	says(t, nine, "tick 1", "ok", "tick 11", "end 0 11 killed", "end 1 11 killed", "pass 11 3 2", "start 3 11 0 1 2 3", "pin 2 11")

	ten := loaded(t, api.State{Config: example(), Now: horizon - 1, Accounts: []api.Account{account("root", -1)}, Holder: -1})
	says(t, ten, "tick 2", "error 180")
	says(t, ten, "tick 1", "ok", "tick 1099511627776")
}

// ErrConfigScale is told of no config within the ranges.
func TestP181New(t *testing.T) {
	usage, rounding := example(), example()
	usage.Period, usage.Half = 1, 1<<30
	rounding.Fair = 1
	for want, c := range map[api.Errno]api.Config{110: {}, 111: usage, 113: rounding} {
		if x, e := New(c); x != nil || e != want || config.Check(c) != want {
			t.Errorf("%+v: %v %d, not %d", c, x, e, want)
		}
	}
	for i := range 8 {
		for _, n := range []int{-1, most, least} {
			c := example()
			*[]*int{&c.Nodes, &c.Queue, &c.Limit, &c.Age, &c.Fair, &c.Size, &c.Period, &c.Half}[i] = n
			if x, e := New(c); x != nil || e != 110 {
				t.Errorf("%+v: %v %d", c, x, e)
			}
		}
	}
	for _, c := range configs() {
		x := begun(t, c)
		want := api.State{Config: c, Now: 0, Accounts: []api.Account{account("root", -1)}, Holder: -1}
		if s := x.State(); !sameState(s, want) {
			t.Errorf("%+v, not %+v", s, want)
		}
		says(t, x, "queue", "holder -1 0")
		says(t, x, "nodes", "free "+strconv.Itoa(c.Nodes))
		says(t, x, "job 0", "error 182")
		says(t, x, "usage root", "usage 0 0 9223372036854775808")
	}
}

// edges is a state with jobs of each State, a holder and usages, each at an edge of what audit takes: at the clock 20, b below a below the root.
func edges() api.State {
	s := api.State{Config: fair(), Now: 20, Holder: 7}
	s.Accounts = []api.Account{account("root", -1), account("a", 2), account("b", 0)}
	job := func(account, nodes, limit, submit, state, start, end int, set ...int) {
		s.Jobs = append(s.Jobs, api.Job{Account: account, Nodes: nodes, Limit: limit, Submit: submit, State: state, Start: start, End: end, Set: set})
	}
	job(1, 4, 10, 0, 4, 1, 11, 0, 1, 2, 3)  // killed
	job(2, 2, 10, 0, 3, 11, 20, 0, 3)       // completed now, one tick ahead of its limit
	job(2, 1, 5, 1, 5, 15, 15, 1)           // stopped as it was started
	job(1, 1, 6, 15, 2, 16, 0, 1)           // runs, and is due at 22
	job(2, 1, 1, 19, 2, 20, 0, 2)           // runs since now, and is due at 21
	job(1, 4, 10, 19, 6, 0, 19)             // dropped as it was submitted
	job(2, 1, 10, 19, 6, 0, 20)             // dropped now
	job(1, 4, 10, 19, 1, 0, 0)              // holds
	job(2, 2, 1, 20, 1, 0, 0)               // submitted now
	s.Accounts[1].Usage = (40 + 4) * q      // all of its raw usage
	s.Accounts[2].Usage, s.Holder = 18*q, 7 // likewise
	return s
}

func TestP182LoadAtTheEdges(t *testing.T) {
	s := edges()
	x := loaded(t, s)
	if got := x.State(); !sameState(got, s) {
		t.Fatalf("%+v, not %+v", got, s)
	}
	says(t, x, "nodes", "free 2")
	for n := range s.Jobs {
		if j := jobOf(t, x, n); !sameAnswer(api.Answer{Job: j}, api.Answer{Job: s.Jobs[n]}) {
			t.Errorf("job %d: %+v, not %+v", n, j, s.Jobs[n])
		}
	}
	if a := done(t, x, cmd(t, "queue")); a.Holder != 7 || a.Shadow != 22 || len(a.Ranks) != 2 {
		t.Error(a)
	}
	if a := done(t, x, cmd(t, "usage b")); a.Raw != 62 || a.Usage != 62*q {
		t.Error(a)
	}
	y := x.Clone()
	says(t, x, "tick 2", "ok",
		"tick 21", "end 4 21 killed", "pass 21 7 8", "start 8 21 0 2",
		"tick 22", "end 3 22 killed", "end 8 22 killed", "pass 22 7", "start 7 22 0 1 2 3")
	does(t, y, "complete 3", "complete 4")
	says(t, y, "queue", "holder 7 0", "7 "+strconv.Itoa(priority(t, y, 7)), "8 "+strconv.Itoa(priority(t, y, 8)))
	says(t, y, "tick 1", "ok", "tick 21", "pass 21 7 8", "start 7 21 0 1 2 3", "pin 8 21")
	says(t, y, "submit b 1 1", "job 9", "submit 9 21 1 1")
}

func priority(t *testing.T, x *Core, job int) int {
	t.Helper()
	for _, r := range done(t, x, cmd(t, "queue")).Ranks {
		if r.Job == job {
			return r.Priority
		}
	}
	t.Fatal(job, "is not pending")
	return 0
}

// auditSpoils makes states that audit refuses, by its errors in their order.
func auditSpoils() []struct {
	e     api.Errno
	spoil func(s *api.State)
} {
	return []struct {
		e     api.Errno
		spoil func(s *api.State)
	}{
		{170, func(s *api.State) { s.Config.Age = 0 }},
		{171, func(s *api.State) { s.Now = -1 }},
		{172, func(s *api.State) { s.Accounts[1].Name = "b" }},
		{174, func(s *api.State) { s.Jobs[3].Start = 14 }},
		{175, func(s *api.State) { s.Config.Queue = 1 }},
		{176, func(s *api.State) { s.Jobs[4].Set = []int{1} }},
		{173, func(s *api.State) { s.Accounts[1].Usage++ }},
		{177, func(s *api.State) { s.Holder = 8 }},
	}
}

func TestP182LoadRefuses(t *testing.T) {
	for i, one := range auditSpoils() {
		s := edges()
		one.spoil(&s)
		if x, e := Load(s); x != nil || e != one.e {
			t.Errorf("%v %d, not %d", x, e, one.e)
		}
		for _, later := range auditSpoils()[i+1:] {
			both := deepCopy(s)
			later.spoil(&both)
			if x, e := Load(both); x != nil || e != one.e {
				t.Errorf("%v %d, not %d", x, e, one.e)
			}
		}
	}
	if x, e := Load(api.State{}); x != nil || e != 170 {
		t.Error(x, e)
	}
}

func TestR3NoListAndAnEmptyOne(t *testing.T) {
	s := api.State{Config: example(), Now: 3, Accounts: []api.Account{account("root", -1), account("a", 0)}, Holder: -1}
	bare := loaded(t, s)
	s.Jobs = []api.Job{}
	if got := loaded(t, s).State(); !sameState(got, bare.State()) {
		t.Error(got)
	}
	s.Jobs = []api.Job{{Account: 1, Nodes: 1, Limit: 1, State: 1, Set: []int{}}}
	x := loaded(t, s)
	s.Jobs[0].Set = nil
	y := loaded(t, s)
	for _, line := range []string{"job 0", "queue", "tick 1", "job 0"} {
		if a, b := done(t, x, cmd(t, line)), done(t, y, cmd(t, line)); !sameAnswer(a, b) {
			t.Error(line, a, b)
		}
	}
}

// spoilState writes into all that a state has, and into the spare room behind its lists.
func spoilState(s *api.State) {
	s.Config, s.Now, s.Holder = api.Config{}, -7, 99
	for n := range s.Accounts {
		s.Accounts[n] = api.Account{Name: "spoilt", Usage: 7}
	}
	for n := range s.Jobs {
		spoilList(s.Jobs[n].Set)
		s.Jobs[n] = api.Job{Account: -7, Set: []int{-7}}
	}
	s.Accounts, s.Jobs = append(s.Accounts, api.Account{Name: "spoilt"}), append(s.Jobs, api.Job{State: 1})
}

func spoilList(l []int) {
	for i := range l[:cap(l)] {
		l[:cap(l)][i] = -7
	}
}

func spoilAnswer(a api.Answer) {
	for i := range a.Events {
		spoilList(a.Events[i].List)
	}
	for i := range a.Events[:cap(a.Events)] {
		a.Events[:cap(a.Events)][i] = api.Event{Job: -7}
	}
	for i := range a.Ranks[:cap(a.Ranks)] {
		a.Ranks[:cap(a.Ranks)][i] = api.Rank{Job: -7}
	}
	spoilList(a.Job.Set)
}

func TestR4StateIsTheCallers(t *testing.T) {
	x := loaded(t, edges())
	want := x.State()
	for range 3 {
		s := x.State()
		spoilState(&s)
		if got := x.State(); !sameState(got, want) || !sameState(got, edges()) {
			t.Fatalf("%+v, not %+v", got, want)
		}
	}
}

func TestR4HandedInIsNotKept(t *testing.T) {
	s := edges()
	// Spare room that is the caller's, with something in it.
	set := append(make([]int, 0, 9), s.Jobs[3].Set...)
	s.Jobs[3].Set = set
	s.Jobs = append(make([]api.Job, 0, 20), s.Jobs...)
	s.Jobs[:20][len(s.Jobs)] = api.Job{Account: 5}
	s.Accounts = append(make([]api.Account, 0, 20), s.Accounts...)
	s.Accounts[:20][len(s.Accounts)] = api.Account{Name: "spare"}
	handed := deepCopy(s)
	x := loaded(t, s)
	does(t, x, "account d root 1", "submit d 1 1", "tick 3", "cancel 7")
	if !sameState(s, handed) || s.Jobs[:20][len(s.Jobs)].Account != 5 || s.Accounts[:20][len(s.Accounts)].Name != "spare" || !slices.Equal(set[:9], []int{1, 0, 0, 0, 0, 0, 0, 0, 0}) {
		t.Errorf("what was handed in is %+v now", s)
	}
	y := loaded(t, s)
	spoilState(&s)
	if got := y.State(); !sameState(got, handed) {
		t.Errorf("%+v, not %+v", got, handed)
	}
}

func TestR4AnswersAreTheCallers(t *testing.T) {
	lines := []string{
		"account a root 1", "submit a 3 5", "submit a 3 5", "submit a 1 5", "submit a 1 6", "tick 1", "job 0", "job 1", "queue", "queue", "tick 3",
		"job 2", "complete 0", "cancel 1", "tick 2", "job 3", "usage a", "nodes", "config", "close a", "submit a 1 1", "tick 9", "job 0",
	}
	x, y := begun(t, example()), begun(t, example())
	var kept []api.Answer
	for _, line := range lines {
		a, b := x.Do(cmd(t, line)), y.Do(cmd(t, line))
		kept = append(kept, a)
		spoilAnswer(b)
		if c := y.Clone(); !sameState(x.State(), y.State()) || !sameState(x.State(), c.State()) {
			t.Fatal(line)
		}
	}
	// Earlier answers stay as they were, whatever is done to later ones.
	z := begun(t, example())
	for i, line := range lines {
		if a := z.Do(cmd(t, line)); !sameAnswer(a, kept[i]) {
			t.Errorf("%s: %+v, not %+v", line, kept[i], a)
		}
	}
}

// No two lists of one answer share memory: what is written into one is not seen in another.
func TestR4NoTwoListsShare(t *testing.T) {
	lists := func(x *Core) (l [][]int) {
		for _, e := range x.Do(cmd(t, "tick 30")).Events {
			l = append(l, e.List)
		}
		for _, j := range x.State().Jobs {
			l = append(l, j.Set)
		}
		return l
	}
	x := begun(t, example(), "account a root 1", "submit a 3 5", "submit a 3 5", "submit a 2 5", "submit a 4 6", "submit a 1 9")
	y := x.Clone()
	want, got := lists(x), lists(y)
	for i := range got {
		spoilList(got[i])
		for k := i + 1; k < len(got); k++ {
			if !slices.Equal(got[k], want[k]) {
				t.Fatalf("list %d is %v, not %v, behind a write into %d", k, got[k], want[k], i)
			}
		}
	}
}

func TestR7Clone(t *testing.T) {
	lines := []string{
		"submit a 1 1", "submit b 4 10", "cancel 7", "cancel 3", "complete 4", "tick 1", "tick 12", "account d a 7", "shares a 3", "move a root", "close b", "submit a 1 1",
	}
	for _, line := range lines {
		for _, then := range lines {
			x := loaded(t, edges())
			y := x.Clone()
			if !sameState(x.State(), y.State()) {
				t.Fatalf("%+v, not %+v", y.State(), x.State())
			}
			x.Do(cmd(t, line))
			behind := x.State()
			if !sameState(y.State(), edges()) {
				t.Fatalf("%s of the one: the other is %+v", line, y.State())
			}
			y.Do(cmd(t, then))
			if !sameState(x.State(), behind) {
				t.Fatalf("%s of the other: the one is %+v", then, x.State())
			}
			// Each answers as one that stands alone.
			for _, next := range []string{"queue", "nodes", "usage root", "tick 5", "job 7", "account e root 1", "submit e 2 2", "tick 5", "queue", "usage root"} {
				alone := loaded(t, behind)
				if a, b := x.Do(cmd(t, next)), alone.Do(cmd(t, next)); !sameAnswer(a, b) {
					t.Fatalf("%s: %+v, not %+v", next, a, b)
				}
				behind = alone.State()
			}
		}
	}
	root := begun(t, smallest())
	c := root.Clone()
	does(t, c, "account a root 1", "submit a 1 1", "tick 1")
	if s := root.State(); len(s.Accounts) != 1 || len(s.Jobs) != 0 || s.Now != 0 {
		t.Error(s)
	}
}

package audit

import (
	"math"
	"math/big"
	"reflect"
	"slices"
	"strconv"
	"strings"
	"sync"
	"testing"

	"backfill/api"
	"backfill/config"
	"backfill/tree"
)

// The tests hold the package against the chapter's words, taken plainly: sums by math/big, each two jobs held against each other, and the limits and errors written as numbers.

const (
	q       = uint64(1) << 32
	horizon = 1 << 40
	least   = math.MinInt
	most    = math.MaxInt
)

// mixed goes through numbers without an order, always the same ones.
func mixed(seed uint64) uint64 {
	seed += 0x9e3779b97f4a7c15
	seed = (seed ^ seed>>30) * 0xbf58476d1ce4e5b9
	seed = (seed ^ seed>>27) * 0x94d049bb133111eb
	return seed ^ seed>>31
}

type dice struct{ seed uint64 }

func (d *dice) word() uint64 {
	d.seed++
	return mixed(d.seed)
}

func (d *dice) below(n int) int { return int(d.word() % uint64(n)) }

func (d *dice) from(low, high int) int { return low + d.below(high-low+1) }

func (d *dice) yes() bool { return d.below(2) == 0 }

func pick[T any](d *dice, l []T) T { return l[d.below(len(l))] }

func shuffled[T any](d *dice, l []T) []T {
	out := slices.Clone(l)
	for i := range out {
		k := d.from(i, len(out)-1)
		out[i], out[k] = out[k], out[i]
	}
	return out
}

// numbers are first, first + 1 .., so many.
func numbers(first, many int) []int {
	l := make([]int, many)
	for i := range l {
		l[i] = first + i
	}
	return l
}

func whole(n int) *big.Int { return big.NewInt(int64(n)) }

func sum(a, b int) *big.Int { return new(big.Int).Add(whole(a), whole(b)) }

// example is the config of DOC.md's examples: its Bound is 81.
func example() api.Config {
	return api.Config{Nodes: 4, Queue: 8, Limit: 10, Age: 1, Fair: 0, Size: 0, Period: 100, Half: 100}
}

// greatest has as many nodes, as long a queue and as long jobs as may be.
func greatest() api.Config {
	return api.Config{Nodes: 256, Queue: 128, Limit: 1 << 20, Age: 1, Fair: 0, Size: 1 << 20, Period: 100, Half: 100}
}

func smallest() api.Config {
	return api.Config{Nodes: 1, Queue: 1, Limit: 1, Age: 1, Fair: 0, Size: 0, Period: 1, Half: 1}
}

func configs() []api.Config {
	fair := example()
	fair.Fair, fair.Size, fair.Queue = 1000, 3, 3
	wide := greatest()
	wide.Limit = 4
	return []api.Config{example(), fair, wide, smallest(), greatest()}
}

func account(name string, parent int) api.Account {
	return api.Account{Name: name, Parent: parent, Shares: 1}
}

// three are the root, a below it, and b below a.
func three() []api.Account {
	return []api.Account{account("root", -1), account("a", 0), account("b", 1)}
}

// row has so many accounts below the root.
func row(many int) []api.Account {
	l := []api.Account{account("root", -1)}
	for n := range many {
		l = append(l, account("m"+strconv.Itoa(n), 0))
	}
	return l
}

// chain has so many accounts, each below the one ahead.
func chain(many int) []api.Account {
	l := []api.Account{account("root", -1)}
	for n := range many {
		l = append(l, account("c"+strconv.Itoa(n), n))
	}
	return l
}

// job is the one of the chapter's examples: 2 nodes, limit 5, submitted at 1, of account 1.
func job(state, start, end int, set ...int) api.Job {
	return api.Job{Account: 1, Nodes: 2, Limit: 5, Submit: 1, State: state, Start: start, End: end, Set: set}
}

func pending() api.Job { return job(1, 0, 0) }

func stateOf(jobs ...api.Job) api.State {
	return api.State{Config: example(), Now: 9, Accounts: three(), Jobs: jobs, Holder: -1}
}

func isStarted(state int) bool { return state >= 2 && state <= 5 }

// startedStates are those with nodes.
func startedStates() []int { return []int{2, 3, 4, 5} }

// fitting gives a job the Set that it must have: the lowest nodes.
func fitting(j api.Job) api.Job {
	j.Set = nil
	if isStarted(j.State) && j.Nodes > 0 {
		j.Set = numbers(0, j.Nodes)
	}
	return j
}

// one is a state with a job that is right: of the state, submitted at 1, with limit 5, of 2 nodes.
func one(state int) api.State {
	j := job(state, 5, 0)
	switch state {
	case 1:
		j.Start = 0
	case 3, 5:
		j.End = 7
	case 4:
		j.Start, j.End = 2, 7
	case 6:
		j.Start, j.End = 0, 7
	}
	return stateOf(fitting(j))
}

func deepCopy(s api.State) api.State {
	s.Accounts, s.Jobs = slices.Clone(s.Accounts), slices.Clone(s.Jobs)
	for n := range s.Jobs {
		s.Jobs[n].Set = slices.Clone(s.Jobs[n].Set)
	}
	return s
}

// plain is P17.1.
func plain(s api.State) api.Errno {
	if config.Check(s.Config) != 0 {
		return 170
	}
	if s.Now < 0 || s.Now > horizon {
		return 171
	}
	if _, e := tree.Load(s.Accounts); e != 0 {
		return 172
	}
	if len(s.Jobs) > 4096 {
		return 174
	}
	waiting := 0
	for n, j := range s.Jobs {
		if !plainAsked(s, n) || !plainTimes(j, s.Now) || !plainSet(j, s.Config.Nodes) {
			return 174
		}
		if j.State == 1 {
			waiting++
		}
	}
	if waiting > s.Config.Queue {
		return 175
	}
	if plainMeet(s.Jobs) {
		return 176
	}
	for n, a := range s.Accounts {
		can := new(big.Int).Lsh(plainRaw(s, n), 32)
		if new(big.Int).SetUint64(a.Usage).Cmp(can) > 0 {
			return 173
		}
	}
	return plainHolder(s)
}

func plainAsked(s api.State, n int) bool {
	j := s.Jobs[n]
	if j.Account < 0 || j.Account >= len(s.Accounts) || j.Account == 0 {
		return false
	}
	if j.Nodes < 1 || j.Nodes > s.Config.Nodes || j.Limit < 1 || j.Limit > s.Config.Limit {
		return false
	}
	if j.Submit < 0 || j.Submit > s.Now || n > 0 && j.Submit < s.Jobs[n-1].Submit {
		return false
	}
	return sum(j.Submit, config.Bound(s.Config)).Cmp(whole(horizon)) <= 0
}

func plainTimes(j api.Job, now int) bool {
	due := sum(j.Start, j.Limit)
	switch j.State {
	case 1:
		return j.Start == 0 && j.End == 0
	case 2:
		return j.Submit < j.Start && j.Start <= now && whole(now).Cmp(due) < 0 && j.End == 0
	case 3, 5:
		return j.Submit < j.Start && j.Start <= j.End && whole(j.End).Cmp(due) < 0 && j.End <= now
	case 4:
		return j.Submit < j.Start && whole(j.End).Cmp(due) == 0 && j.End <= now
	case 6:
		return j.Start == 0 && j.Submit <= j.End && j.End <= now
	}
	return false
}

func plainSet(j api.Job, nodes int) bool {
	if !isStarted(j.State) {
		return len(j.Set) == 0
	}
	for i, node := range j.Set {
		if node < 0 || node > nodes-1 || i > 0 && node <= j.Set[i-1] {
			return false
		}
	}
	return len(j.Set) == j.Nodes
}

// plainMeet tells whether two jobs have a node and a time in common.
func plainMeet(jobs []api.Job) bool {
	end := func(j api.Job) int {
		if j.State == 2 {
			return most
		}
		return j.End
	}
	for n, a := range jobs {
		for _, b := range jobs[:n] {
			if !isStarted(a.State) || !isStarted(b.State) || max(a.Start, b.Start) >= min(end(a), end(b)) {
				continue
			}
			if slices.ContainsFunc(a.Set, func(node int) bool { return slices.Contains(b.Set, node) }) {
				return true
			}
		}
	}
	return false
}

func plainRaw(s api.State, account int) *big.Int {
	raw := new(big.Int)
	for _, j := range s.Jobs {
		ran := 0
		switch j.State {
		case 2:
			ran = s.Now - j.Start
		case 3, 4, 5:
			ran = j.End - j.Start
		}
		if j.Account == account {
			raw.Add(raw, new(big.Int).Mul(whole(j.Nodes), whole(ran)))
		}
	}
	return raw
}

func plainHolder(s api.State) api.Errno {
	for n, j := range s.Jobs {
		if n == s.Holder && j.State == 1 && j.Submit < s.Now {
			return 0
		}
	}
	if s.Holder == -1 {
		return 0
	}
	return 177
}

// checked holds Check against the plain words, and tells what it answers.
func checked(t *testing.T, s api.State) api.Errno {
	t.Helper()
	e, want := Check(s), plain(s)
	if e != want {
		t.Fatalf("Check(%s): %d, not %d", told(s), e, want)
	}
	return e
}

// wants holds both against an answer that is written out.
func wants(t *testing.T, s api.State, want api.Errno) {
	t.Helper()
	if e := checked(t, s); e != want {
		t.Errorf("Check(%s): %d, not %d", told(s), e, want)
	}
}

// told is short enough to be read.
func told(s api.State) string {
	var b strings.Builder
	row := func(l ...int) {
		for _, n := range l {
			b.WriteString(" " + strconv.Itoa(n))
		}
	}
	c := s.Config
	row(c.Nodes, c.Queue, c.Limit, c.Age, c.Fair, c.Size, c.Period, c.Half)
	b.WriteString("; now, holder")
	row(s.Now, s.Holder, len(s.Accounts), len(s.Jobs))
	for n, a := range s.Accounts[:min(8, len(s.Accounts))] {
		b.WriteString("; account " + strconv.Itoa(n) + " " + strconv.Quote(a.Name) + " " + strconv.FormatUint(a.Usage, 10))
		row(a.Parent, a.Shares)
	}
	for n, j := range s.Jobs[:min(20, len(s.Jobs))] {
		b.WriteString("; job")
		row(n, j.Account, j.Nodes, j.Limit, j.Submit, j.State, j.Start, j.End)
		b.WriteString(" set")
		row(j.Set[:min(20, len(j.Set))]...)
	}
	return b.String()
}

func TestErrorNumbers(t *testing.T) {
	for i, e := range []api.Errno{api.ErrAuditConfig, api.ErrAuditClock, api.ErrAuditTree, api.ErrAuditUsage, api.ErrAuditJob, api.ErrAuditQueue, api.ErrAuditNodes, api.ErrAuditHolder} {
		if int(e) != 170+i {
			t.Errorf("%d, not %d", e, 170+i)
		}
	}
}

func TestChapterExamples(t *testing.T) {
	with := func(s api.State, change func(s *api.State)) api.State {
		change(&s)
		return s
	}
	runs := stateOf(job(2, 5, 0, 0, 1))
	for _, x := range []struct {
		s    api.State
		want api.Errno
	}{
		{stateOf(), 0},
		{with(stateOf(), func(s *api.State) { s.Now = -1 }), 171},
		{with(stateOf(), func(s *api.State) { s.Accounts = nil }), 172},
		{runs, 0},
		{stateOf(job(2, 4, 0, 0, 1)), 174},
		{stateOf(job(2, 1, 0, 0, 1)), 174},
		{stateOf(job(4, 2, 7, 0, 1), job(2, 7, 0, 1, 2)), 0},
		{stateOf(job(3, 2, 6, 0, 1), job(2, 5, 0, 1, 2)), 176},
		{stateOf(job(4, 2, 6, 0, 1)), 174},
		{stateOf(job(3, 2, 7, 0, 1)), 174},
		{stateOf(job(6, 0, 9)), 0},
		{with(stateOf(pending()), func(s *api.State) { s.Holder = 0 }), 0},
		{with(stateOf(pending()), func(s *api.State) { s.Holder = 1 }), 177},
		{with(deepCopy(runs), func(s *api.State) { s.Accounts[1].Usage = 8 << 32 }), 0},
		{with(deepCopy(runs), func(s *api.State) { s.Accounts[1].Usage = 8<<32 + 1 }), 173},
		{stateOf(job(2, 5, 0, 1, 0)), 174},
		{stateOf(job(2, 5, 0, 0, 4)), 174},
		{stateOf(job(2, 5, 0, 0)), 174},
	} {
		// The accounts of the examples are the root and a alone.
		x.s.Accounts = x.s.Accounts[:min(2, len(x.s.Accounts))]
		wants(t, x.s, x.want)
	}
}

// spoils makes one thing wrong each, in the order in which their errors are named, and leaves all else as it is.
func spoils() []struct {
	e     api.Errno
	spoil func(s *api.State)
} {
	return []struct {
		e     api.Errno
		spoil func(s *api.State)
	}{
		{170, func(s *api.State) { s.Config.Age = 0 }},
		{171, func(s *api.State) { s.Now = horizon + 1 }},
		{172, func(s *api.State) { s.Accounts[2].Name = "b b" }},
		{174, func(s *api.State) { s.Jobs = append(s.Jobs, job(7, 0, 0)) }},
		{175, func(s *api.State) {
			for range 8 {
				s.Jobs = append(s.Jobs, pending())
			}
		}},
		{176, func(s *api.State) { s.Jobs = append(s.Jobs, job(3, 3, 5, 1, 2)) }},
		{173, func(s *api.State) { s.Accounts[2].Usage = 1 }},
		{177, func(s *api.State) { s.Holder = -2 }},
	}
}

func spoiled(which ...int) api.State {
	s := deepCopy(stateOf(job(3, 2, 4, 0, 1), pending(), job(6, 0, 3)))
	s.Holder = 1
	for _, i := range which {
		spoils()[i].spoil(&s)
	}
	return s
}

func TestP171EachErrorAlone(t *testing.T) {
	wants(t, spoiled(), 0)
	for i, x := range spoils() {
		wants(t, spoiled(i), x.e)
	}
}

func TestP171OfEachTwoTheFirst(t *testing.T) {
	all := spoils()
	for i := range all {
		for k := range i {
			wants(t, spoiled(i, k), all[k].e)
			wants(t, spoiled(k, i), all[k].e)
		}
	}
}

func TestP171OfSeveralTheFirst(t *testing.T) {
	all := spoils()
	for which := 1; which < 1<<len(all); which++ {
		var l []int
		for i := range all {
			if which>>i&1 == 1 {
				l = append(l, i)
			}
		}
		wants(t, spoiled(l...), all[l[0]].e)
	}
}

// With nothing right at all the config is told.
func TestP171NothingRight(t *testing.T) {
	wants(t, api.State{}, 170)
	bare := api.State{Config: example()}
	wants(t, bare, 172)
	bare.Accounts = three()
	wants(t, bare, 177)
	bare.Holder = -1
	wants(t, bare, 0)
}

func TestP171Config(t *testing.T) {
	for _, c := range configs() {
		s := stateOf()
		s.Config = c
		wants(t, s, 0)
	}
	for i, ends := range [][2]int{{1, 256}, {1, 128}, {1, 1 << 20}, {1, 1 << 20}, {0, 1 << 20}, {0, 1 << 20}, {1, 1 << 20}, {1, 1 << 30}} {
		for _, n := range []int{ends[0] - 1, ends[1] + 1, least, most, -1} {
			s := stateOf()
			c := &s.Config
			*[]*int{&c.Nodes, &c.Queue, &c.Limit, &c.Age, &c.Fair, &c.Size, &c.Period, &c.Half}[i] = n
			if config.Check(*c) != api.ErrConfigRange {
				t.Fatal(i, n)
			}
			wants(t, s, 170)
		}
	}
}

// ErrConfigScale is told of no config within the ranges.
func TestP171ConfigOfEachError(t *testing.T) {
	usage, rounding := example(), example()
	usage.Period, usage.Half = 1, 1<<30
	rounding.Fair = 1
	for want, c := range map[api.Errno]api.Config{110: {}, 111: usage, 113: rounding} {
		if e := config.Check(c); e != want {
			t.Fatal(e, want)
		}
		s := stateOf(job(2, 5, 0, 0, 1))
		s.Config = c
		wants(t, s, 170)
	}
}

func TestP171Clock(t *testing.T) {
	for now, want := range map[int]api.Errno{
		-1: 171, 0: 0, 1: 0, horizon - 1: 0, horizon: 0, horizon + 1: 171, 1 << 41: 171, -horizon: 171, least: 171, most: 171,
	} {
		s := stateOf()
		s.Now = now
		wants(t, s, want)
	}
}

func TestP171Tree(t *testing.T) {
	other := func(change func(l []api.Account)) []api.Account {
		l := append(three(), account("d", 0))
		change(l)
		return l
	}
	refused := map[api.Errno][][]api.Account{
		60: {
			other(func(l []api.Account) { l[2].Name = "" }),
			other(func(l []api.Account) { l[3].Name = "b c" }),
			other(func(l []api.Account) { l[1].Name = strings.Repeat("x", 33) }),
		},
		61: {other(func(l []api.Account) { l[3].Name = "a" }), other(func(l []api.Account) { l[1].Name = "root" })},
		62: {
			other(func(l []api.Account) { l[1].Parent = -1 }),
			other(func(l []api.Account) { l[3].Parent = 4 }),
			other(func(l []api.Account) { l[3].Parent = least }),
			other(func(l []api.Account) { l[3].Parent = most }),
		},
		63: {other(func(l []api.Account) { l[1].Shares = 0 }), other(func(l []api.Account) { l[3].Shares = 4097 })},
		64: {chain(5)},
		65: {row(64), row(1000)},
		66: {
			nil,
			{},
			three()[1:],
			other(func(l []api.Account) { l[0].Name = "Root" }),
			other(func(l []api.Account) { l[0].Parent = 0 }),
			other(func(l []api.Account) { l[0].Shares = 2 }),
			other(func(l []api.Account) { l[0].Closed = true }),
		},
		67: {other(func(l []api.Account) { l[1].Parent = 2 }), other(func(l []api.Account) { l[3].Parent = 3 })},
	}
	for e, lists := range refused {
		for _, l := range lists {
			if _, was := tree.Load(l); was != e {
				t.Fatal(was, e)
			}
			s := stateOf(pending())
			s.Accounts = l
			wants(t, s, 172)
		}
	}
	taken := [][]api.Account{
		three(), row(1), row(63), chain(1), chain(4),
		other(func(l []api.Account) { l[1].Parent = 3 }),
		other(func(l []api.Account) { l[1].Shares = 4096 }),
		other(func(l []api.Account) { l[1].Closed = true }),
		other(func(l []api.Account) { l[1].Name = strings.Repeat("x", 32) }),
	}
	for _, l := range taken {
		s := stateOf(pending())
		s.Accounts = l
		wants(t, s, 0)
	}
	alone := stateOf()
	alone.Accounts = row(0)
	wants(t, alone, 0)
}

func TestP171HowManyJobs(t *testing.T) {
	dropped, ran := stateOf(), stateOf()
	ran.Now = 5000
	for n := range 4096 {
		dropped.Jobs = append(dropped.Jobs, job(6, 0, 3))
		j := job(4, n+2, n+3, 0, 1)
		j.Limit = 1
		ran.Jobs = append(ran.Jobs, j)
	}
	for _, s := range []api.State{dropped, ran} {
		wants(t, s, 0)
		s.Jobs = append(s.Jobs, job(6, 0, 9))
		wants(t, s, 174)
		s.Jobs = append(s.Jobs, s.Jobs...)
		wants(t, s, 174)
	}
}

// More jobs than may be are told, whatever else is wrong behind that.
func TestP171ManyJobsOfWhichOneWaits(t *testing.T) {
	s := stateOf()
	for range 4096 {
		s.Jobs = append(s.Jobs, job(6, 0, 3))
	}
	s.Jobs[4095] = pending()
	s.Holder = 4095
	wants(t, s, 0)
	s.Holder = 4096
	wants(t, s, 177)
	s.Jobs = append(s.Jobs, pending())
	wants(t, s, 174)
}

func TestP171Account(t *testing.T) {
	for state := 1; state <= 6; state++ {
		for _, accounts := range [][]api.Account{three(), row(1), row(63), chain(4)} {
			last := len(accounts) - 1
			for _, x := range []struct {
				account int
				want    api.Errno
			}{{1, 0}, {last, 0}, {0, 174}, {-1, 174}, {last + 1, 174}, {64, 174}, {least, 174}, {most, 174}, {-horizon, 174}} {
				s := one(state)
				s.Accounts, s.Jobs[0].Account = accounts, x.account
				wants(t, s, x.want)
			}
		}
	}
	s := stateOf(pending())
	s.Accounts = row(0)
	wants(t, s, 174)
}

func TestP171Nodes(t *testing.T) {
	for state := 1; state <= 6; state++ {
		for _, c := range configs() {
			for _, x := range []struct {
				nodes int
				want  api.Errno
			}{{1, 0}, {c.Nodes, 0}, {0, 174}, {-1, 174}, {c.Nodes + 1, 174}, {257, 174}, {least, 174}, {most, 174}} {
				s := one(state)
				s.Config, s.Now = c, 7
				s.Jobs[0].Nodes = x.nodes
				if c.Limit < 5 {
					s = short(s)
				}
				if x.nodes < 1000 {
					s.Jobs[0] = fitting(s.Jobs[0])
				}
				wants(t, s, x.want)
			}
		}
	}
}

// short makes the job of a state one of limit 1.
func short(s api.State) api.State {
	j := &s.Jobs[0]
	j.Limit = 1
	switch j.State {
	case 2:
		j.Start = s.Now
	case 3, 5:
		j.End = j.Start
	case 4:
		j.End = j.Start + 1
	}
	return s
}

func TestP171Limit(t *testing.T) {
	for _, c := range configs() {
		for _, x := range []struct {
			limit int
			want  api.Errno
		}{{1, 0}, {c.Limit, 0}, {0, 174}, {-1, 174}, {c.Limit + 1, 174}, {1<<20 + 1, 174}, {least, 174}, {most, 174}} {
			for state := 1; state <= 6; state++ {
				s := one(state)
				s.Config, s.Now = c, 1<<21
				j := &s.Jobs[0]
				j.Nodes, j.Limit = 1, x.limit
				switch state {
				case 2:
					j.Start = s.Now
				case 3, 5:
					j.End = j.Start
				case 4:
					// It wraps round where there is no such end.
					j.End = j.Start + x.limit
				}
				*j = fitting(*j)
				wants(t, s, x.want)
			}
		}
	}
}

func TestP171Submit(t *testing.T) {
	for _, x := range []struct {
		submit int
		want   api.Errno
	}{{0, 0}, {-1, 174}, {1, 0}, {9, 0}, {10, 174}, {least, 174}, {most, 174}, {-9, 174}} {
		s := stateOf(pending())
		s.Jobs[0].Submit = x.submit
		wants(t, s, x.want)
		// Dropped as it was submitted.
		s.Jobs[0].State, s.Jobs[0].End = 6, x.submit
		wants(t, s, x.want)
	}
	first := stateOf(pending())
	first.Now, first.Jobs[0].Submit = 0, 0
	wants(t, first, 0)
}

func TestP171SubmitRises(t *testing.T) {
	for _, x := range []struct {
		submits []int
		want    api.Errno
	}{
		{[]int{3, 3}, 0}, {[]int{3, 4}, 0}, {[]int{3, 2}, 174}, {[]int{1, 0}, 174}, {[]int{0, 0, 9, 9}, 0},
		{[]int{0, 9, 8}, 174}, {[]int{5, 7, 6}, 174}, {[]int{5, 4, 7}, 174}, {[]int{2, 5, 3, 6}, 174}, {[]int{9, 0}, 174},
	} {
		for state := 1; state <= 6; state++ {
			for last := 1; last <= 6; last++ {
				s := api.State{Config: example(), Now: 40, Accounts: three(), Holder: -1}
				for i, submit := range x.submits {
					j := one(state).Jobs[0]
					if i == len(x.submits)-1 {
						j = one(last).Jobs[0]
					}
					s.Jobs = append(s.Jobs, apart(j, i, submit))
				}
				wants(t, s, x.want)
			}
		}
	}
}

// apart gives a job that is submitted at such a time times within 10 to 40 and a node, both by its number.
func apart(j api.Job, n, submit int) api.Job {
	j.Submit, j.Nodes = submit, 1
	switch j.State {
	case 2:
		j.Start = 36
	case 3, 5:
		j.Start, j.End = 11+n, 12+n
	case 4:
		j.Start, j.End = 11+n, 16+n
	case 6:
		j.End = 15
	}
	if isStarted(j.State) {
		j.Set = []int{n}
	}
	return j
}

func TestP171SubmitAndBound(t *testing.T) {
	for _, c := range configs() {
		bound := config.Bound(c)
		for _, x := range []struct {
			submit int
			want   api.Errno
		}{
			{horizon - bound, 0}, {horizon - bound + 1, 174}, {horizon - bound - 1, 0}, {horizon, 174}, {horizon - 1, 174},
			{most, 174}, {most - bound, 174}, {most - bound + 1, 174}, {least, 174},
		} {
			s := stateOf()
			s.Config, s.Now = c, horizon
			j := api.Job{Account: 1, Nodes: 1, Limit: 1, Submit: x.submit, State: 1}
			s.Jobs = []api.Job{j}
			wants(t, s, x.want)
			s.Jobs[0].State, s.Jobs[0].End = 6, horizon
			wants(t, s, x.want)
			s.Jobs[0].State, s.Jobs[0].Start, s.Jobs[0].Set = 3, horizon, []int{0}
			wants(t, s, x.want)
			s.Jobs[0].State, s.Jobs[0].End = 2, 0
			wants(t, s, x.want)
		}
	}
	if config.Bound(example()) != 81 {
		t.Error(config.Bound(example()))
	}
}

// Each State, its times at each edge and just beyond, written out.
func TestP171Times(t *testing.T) {
	for _, x := range []struct {
		state, submit, limit int
		taken, refused       [][2]int
	}{
		{1, 1, 5, [][2]int{{0, 0}}, [][2]int{{1, 0}, {0, 1}, {-1, 0}, {0, -1}, {2, 0}, {2, 7}, {0, 9}, {9, 9}, {0, 10}}},
		{1, 0, 5, [][2]int{{0, 0}}, [][2]int{{1, 0}, {0, 1}, {-1, 0}, {0, -1}}},
		{1, 9, 5, [][2]int{{0, 0}}, [][2]int{{9, 0}, {0, 9}, {10, 0}}},
		{2, 1, 5, [][2]int{{5, 0}, {6, 0}, {9, 0}}, [][2]int{{4, 0}, {3, 0}, {10, 0}, {1, 0}, {0, 0}, {-1, 0}, {5, 1}, {5, -1}, {5, 5}, {5, 9}, {5, 10}}},
		{2, 6, 5, [][2]int{{7, 0}, {9, 0}}, [][2]int{{6, 0}, {5, 0}, {10, 0}}},
		{2, 1, 10, [][2]int{{2, 0}, {9, 0}}, [][2]int{{1, 0}, {0, 0}, {10, 0}}},
		{2, 0, 9, [][2]int{{1, 0}}, [][2]int{{0, 0}}},
		{2, 0, 8, [][2]int{{2, 0}}, [][2]int{{1, 0}, {0, 0}}},
		{2, 8, 1, [][2]int{{9, 0}}, [][2]int{{8, 0}, {10, 0}}},
		{2, 9, 5, nil, [][2]int{{9, 0}, {10, 0}, {8, 0}}},
		{3, 1, 5, [][2]int{{2, 2}, {2, 3}, {2, 6}, {3, 7}, {5, 9}, {7, 9}, {9, 9}}, [][2]int{{2, 1}, {2, 7}, {2, 8}, {1, 3}, {1, 1}, {0, 0}, {4, 9}, {7, 10}, {9, 10}, {9, 8}, {10, 10}, {10, 9}, {2, 0}, {2, -1}, {-1, 2}}},
		{3, 6, 5, [][2]int{{7, 7}, {7, 9}}, [][2]int{{6, 7}, {6, 6}, {7, 6}, {7, 10}}},
		{3, 1, 1, [][2]int{{2, 2}, {9, 9}}, [][2]int{{2, 3}, {2, 1}, {1, 1}, {9, 10}, {10, 10}}},
		{3, 9, 5, nil, [][2]int{{9, 9}, {10, 10}, {9, 10}, {8, 9}}},
		{4, 1, 5, [][2]int{{2, 7}, {3, 8}, {4, 9}}, [][2]int{{2, 6}, {2, 8}, {5, 10}, {5, 9}, {1, 6}, {0, 5}, {-1, 4}, {2, 2}, {2, 0}, {2, 9}, {10, 15}}},
		{4, 3, 5, [][2]int{{4, 9}}, [][2]int{{3, 8}, {2, 7}, {4, 8}, {5, 10}}},
		{4, 1, 1, [][2]int{{2, 3}, {8, 9}}, [][2]int{{9, 10}, {2, 2}, {2, 4}, {1, 2}}},
		{4, 4, 5, nil, [][2]int{{4, 9}, {5, 10}, {5, 9}}},
		{6, 3, 5, [][2]int{{0, 3}, {0, 4}, {0, 8}, {0, 9}}, [][2]int{{0, 2}, {0, 10}, {0, 0}, {0, -1}, {1, 5}, {-1, 5}, {4, 9}, {4, 5}}},
		{6, 0, 5, [][2]int{{0, 0}, {0, 9}}, [][2]int{{0, -1}, {0, 10}, {1, 0}}},
		{6, 9, 5, [][2]int{{0, 9}}, [][2]int{{0, 8}, {0, 10}, {9, 9}}},
	} {
		states := []int{x.state}
		if x.state == 3 {
			states = []int{3, 5}
		}
		for _, state := range states {
			at := func(times [2]int) api.State {
				j := job(state, times[0], times[1])
				j.Submit, j.Limit = x.submit, x.limit
				return stateOf(fitting(j))
			}
			for _, times := range x.taken {
				wants(t, at(times), 0)
			}
			for _, times := range x.refused {
				wants(t, at(times), 174)
			}
		}
	}
}

// At the clock's end a job may have all of its limit before it.
func TestP171TimesAtTheHorizon(t *testing.T) {
	for _, x := range []struct {
		state, start, end int
		want              api.Errno
	}{
		{1, 0, 0, 0}, {6, 0, horizon, 0}, {6, 0, horizon + 1, 174},
		{2, horizon, 0, 0}, {2, horizon - 4, 0, 0}, {2, horizon - 5, 0, 174}, {2, horizon + 1, 0, 174},
		{3, horizon, horizon, 0}, {3, horizon - 4, horizon, 0}, {3, horizon - 5, horizon, 174}, {3, horizon, horizon + 1, 174}, {3, horizon + 1, horizon + 1, 174},
		{5, horizon, horizon, 0}, {5, horizon - 4, horizon, 0}, {5, horizon - 5, horizon, 174}, {5, horizon, horizon + 1, 174}, {5, horizon + 1, horizon + 1, 174},
		{4, horizon - 5, horizon, 0}, {4, horizon - 4, horizon + 1, 174}, {4, horizon - 4, horizon, 174}, {4, horizon + 1, horizon + 6, 174},
	} {
		s := stateOf(fitting(job(x.state, x.start, x.end)))
		s.Now, s.Jobs[0].Submit = horizon, horizon-81
		wants(t, s, x.want)
	}
}

// All small times of all States, and those that are none.
func TestP171AllSmallTimes(t *testing.T) {
	for now := range 6 {
		for submit := range now + 2 {
			for limit := 1; limit <= 3; limit++ {
				for state := -1; state <= 8; state++ {
					for start := -1; start <= now+2; start++ {
						for end := -1; end <= now+5; end++ {
							s := stateOf(fitting(api.Job{Account: 1, Nodes: 1, Limit: limit, Submit: submit, State: state, Start: start, End: end}))
							s.Now = now
							checked(t, s)
						}
					}
				}
			}
		}
	}
}

func TestP171NoOtherState(t *testing.T) {
	for good := 1; good <= 6; good++ {
		wants(t, one(good), 0)
		for _, state := range []int{0, 7, -1, 8, 100, 257, least, most} {
			for _, set := range [][]int{nil, {0, 1}} {
				s := one(good)
				s.Jobs[0].State, s.Jobs[0].Set = state, set
				wants(t, s, 174)
			}
		}
	}
}

// extremes are numbers by which a sum, or a difference, may wrap round.
func extremes() []int {
	return []int{least, least + 1, least + 4, least + 5, least + 9, least + 10, -1 << 62, 1 << 62, most - 81, most - 10, most - 9, most - 5, most - 4, most - 1, most}
}

// fieldsOf are all numbers of a job.
func fieldsOf(j *api.Job) []*int {
	return []*int{&j.Account, &j.Nodes, &j.Limit, &j.Submit, &j.State, &j.Start, &j.End}
}

func TestP171NothingWrapsRound(t *testing.T) {
	for state := 1; state <= 6; state++ {
		for field := range 7 {
			for _, n := range extremes() {
				s := one(state)
				*fieldsOf(&s.Jobs[0])[field] = n
				wants(t, s, 174)
			}
		}
		for _, start := range extremes() {
			for limit := 1; limit <= 10; limit++ {
				for _, end := range append(extremes(), start, start+limit, start+limit-1, start-limit, 0, 5, 9) {
					s := one(state)
					j := &s.Jobs[0]
					j.Limit, j.Start, j.End = limit, start, end
					wants(t, s, 174)
					// A Submit below all times cannot be, but would let them be.
					j.Submit = min(start, end) - 1
					wants(t, s, 174)
				}
			}
		}
	}
}

// A sum that wraps round is small, and would be a time that may be.
func TestP171EndsThatWouldWrapRound(t *testing.T) {
	for limit := 1; limit <= 1<<20; limit *= 2 {
		for k := range min(limit, 50) {
			s := stateOf(job(4, most-k, most-k+limit, 0, 1))
			s.Config.Limit, s.Jobs[0].Limit = 1<<20, limit
			wants(t, s, 174)
			s.Jobs[0].State, s.Jobs[0].End = 2, 0
			wants(t, s, 174)
			s.Jobs[0].State, s.Jobs[0].End = 3, 9
			wants(t, s, 174)
		}
	}
}

func TestP171Set(t *testing.T) {
	for _, state := range startedStates() {
		for _, set := range [][]int{{0, 1}, {2, 3}, {0, 3}, {1, 2}, {1, 3}} {
			s := one(state)
			s.Jobs[0].Set = set
			wants(t, s, 0)
		}
		for _, set := range [][]int{
			nil, {}, {0}, {3}, {0, 1, 2}, {0, 1, 1}, {1, 0}, {3, 0}, {1, 1}, {0, 0}, {-1, 0}, {0, -1}, {3, 4}, {0, 4}, {4, 5},
			{-2, -1}, {least, 0}, {0, most}, {least, most}, {most, least}, {0, 255}, {0, 256}, {0, 64}, {-1, 4}, numbers(0, 1000),
		} {
			s := one(state)
			s.Jobs[0].Set = set
			wants(t, s, 174)
		}
	}
}

func TestP171SetOfOneAndOfAll(t *testing.T) {
	for _, state := range startedStates() {
		for _, nodes := range []int{1, 2, 4, 63, 64, 65, 128, 255, 256} {
			s := one(state)
			s.Config.Nodes, s.Jobs[0].Nodes = nodes, 1
			for node := -2; node <= 258; node++ {
				s.Jobs[0].Set = []int{node}
				want := api.Errno(174)
				if node >= 0 && node < nodes {
					want = 0
				}
				wants(t, s, want)
			}
			s.Jobs[0].Nodes = nodes
			s.Jobs[0].Set = numbers(0, nodes)
			wants(t, s, 0)
			s.Jobs[0].Set = numbers(1, nodes)
			wants(t, s, 174)
			s.Jobs[0].Set = numbers(-1, nodes)
			wants(t, s, 174)
			for i := range nodes - 1 {
				twice := numbers(0, nodes)
				twice[i+1] = twice[i]
				s.Jobs[0].Set = twice
				wants(t, s, 174)
				turned := numbers(0, nodes)
				turned[i], turned[i+1] = turned[i+1], turned[i]
				s.Jobs[0].Set = turned
				wants(t, s, 174)
			}
		}
	}
}

// Who was not started has no nodes, whatever they are; no list and an empty one are the same.
func TestP171SetOfWhoHasNone(t *testing.T) {
	for _, state := range []int{1, 6} {
		for _, set := range [][]int{nil, {}, make([]int, 0, 9), numbers(0, 2)[:0]} {
			s := one(state)
			s.Jobs[0].Set = set
			wants(t, s, 0)
		}
		for _, set := range [][]int{{0}, {3}, {4}, {-1}, {0, 1}, {1, 0}, {least}, {most}, numbers(0, 300)} {
			s := one(state)
			s.Jobs[0].Set = set
			wants(t, s, 174)
		}
	}
}

// What is wrong is told of each job, wherever it stands.
func TestP171TheWrongJobAnywhere(t *testing.T) {
	for many := 1; many <= 5; many++ {
		for at := range many {
			for field := range 7 {
				s := stateOf()
				for range many {
					s.Jobs = append(s.Jobs, job(6, 0, 3))
				}
				wants(t, s, 0)
				*fieldsOf(&s.Jobs[at])[field] = -1
				wants(t, s, 174)
			}
			s := stateOf()
			for range many {
				s.Jobs = append(s.Jobs, job(6, 0, 3))
			}
			s.Jobs[at].Set = []int{0}
			wants(t, s, 174)
		}
	}
}

func TestP171Queue(t *testing.T) {
	for _, queue := range []int{1, 2, 8, 127, 128} {
		s := stateOf()
		s.Config.Queue = queue
		for range queue {
			s.Jobs = append(s.Jobs, pending())
		}
		wants(t, s, 0)
		s.Holder = queue - 1
		wants(t, s, 0)
		for state := 2; state <= 6; state++ {
			more := s
			more.Jobs = append(slices.Clone(s.Jobs), one(state).Jobs...)
			wants(t, more, 0)
			more.Jobs = append(one(state).Jobs, s.Jobs...)
			more.Holder = queue
			wants(t, more, 0)
			more.Jobs = append(more.Jobs, pending())
			wants(t, more, 175)
		}
		s.Jobs = append(s.Jobs, pending())
		wants(t, s, 175)
	}
}

// span is a job of one node with such a State and times; its limit goes with them.
func span(state, start, end, node int) api.Job {
	j := api.Job{Account: 1, Nodes: 1, Limit: 50, State: state, Start: start, End: end, Set: []int{node}}
	if state == 4 {
		j.Limit = end - start
	}
	return j
}

// spans is a state with room for long jobs, at the clock 40.
func spans(jobs ...api.Job) api.State {
	s := stateOf(jobs...)
	s.Config.Limit, s.Now = 50, 40
	return s
}

// meets holds two jobs against each other in both orders: with a common node, and without.
func meets(t *testing.T, a, b api.Job, want api.Errno) {
	t.Helper()
	wants(t, spans(a, b), want)
	wants(t, spans(b, a), want)
	other := b
	other.Set = []int{3 - b.Set[0]}
	wants(t, spans(a, other), 0)
	wants(t, spans(other, a), 0)
}

// Who has ended: each two of the three States, on one node.
func TestP171NodesOfWhoEnded(t *testing.T) {
	for _, a := range []int{3, 4, 5} {
		for _, b := range []int{3, 4, 5} {
			first := span(a, 10, 20, 0)
			for _, x := range []struct {
				start, end int
				want       api.Errno
			}{
				{20, 25, 0}, {19, 25, 176}, {5, 10, 0}, {5, 11, 176}, {21, 30, 0}, {30, 31, 0}, {1, 9, 0}, {1, 2, 0},
				{10, 20, 176}, {10, 11, 176}, {19, 20, 176}, {12, 13, 176}, {9, 21, 176}, {5, 40, 176}, {20, 21, 0}, {9, 10, 0}, {9, 11, 176},
			} {
				meets(t, first, span(b, x.start, x.end, 0), x.want)
			}
			if b == 4 {
				continue
			}
			// Without any time it is in nobody's way.
			for _, at := range []int{1, 9, 10, 11, 15, 19, 20, 21, 40} {
				meets(t, first, span(b, at, at, 0), 0)
			}
			if a != 4 {
				meets(t, span(a, 15, 15, 0), span(b, 15, 15, 0), 0)
			}
		}
	}
}

// Who runs has all times from its Start on.
func TestP171NodesOfWhoRuns(t *testing.T) {
	for _, start := range []int{1, 20, 39, 40} {
		runs := span(2, start, 0, 0)
		for _, other := range []int{1, 20, 39, 40} {
			meets(t, runs, span(2, other, 0, 0), 176)
		}
	}
	for _, state := range []int{3, 4, 5} {
		runs := span(2, 20, 0, 0)
		for _, x := range []struct {
			start, end int
			want       api.Errno
		}{
			{10, 20, 0}, {10, 21, 176}, {10, 19, 0}, {1, 2, 0}, {19, 20, 0}, {19, 21, 176}, {20, 21, 176}, {25, 30, 176}, {39, 40, 176}, {1, 40, 176},
		} {
			meets(t, runs, span(state, x.start, x.end, 0), x.want)
		}
		meets(t, span(2, 40, 0, 0), span(state, 30, 40, 0), 0)
		meets(t, span(2, 39, 0, 0), span(state, 30, 40, 0), 176)
		if state != 4 {
			for _, at := range []int{1, 19, 20, 21, 39, 40} {
				meets(t, runs, span(state, at, at, 0), 0)
			}
			meets(t, span(2, 40, 0, 0), span(state, 40, 40, 0), 0)
		}
	}
}

// Who was never started is in nobody's way.
func TestP171NodesOfWhoNeverRan(t *testing.T) {
	for _, state := range startedStates() {
		for _, other := range []int{1, 6} {
			wants(t, stateOf(one(state).Jobs[0], one(other).Jobs[0]), 0)
			wants(t, stateOf(one(other).Jobs[0], one(state).Jobs[0]), 0)
		}
	}
}

// smallSpans are all that a job may be that was submitted at 0 and has a limit of 1 to 3, at the clock 4.
func smallSpans() []api.Job {
	var l []api.Job
	for _, state := range startedStates() {
		for limit := 1; limit <= 3; limit++ {
			for start := 1; start <= 4; start++ {
				for end := range 5 {
					j := api.Job{Account: 1, Nodes: 1, Limit: limit, State: state, Start: start, End: end, Set: []int{0}}
					if plainTimes(j, 4) {
						l = append(l, j)
					}
				}
			}
		}
	}
	return l
}

// has tells whether a job has a tick among its times, by the chapter's words.
func has(j api.Job, tick int) bool {
	if j.State == 2 {
		return tick >= j.Start
	}
	return tick >= j.Start && tick < j.End
}

// Each two small jobs, tick by tick.
func TestP171NodesOfAllSmallTwos(t *testing.T) {
	all := smallSpans()
	for _, a := range all {
		for _, b := range all {
			want := api.Errno(0)
			for tick := range 9 {
				if has(a, tick) && has(b, tick) {
					want = 176
				}
			}
			s := stateOf(a, b)
			s.Now = 4
			wants(t, s, want)
		}
	}
}

// Each three small jobs on one node: whichever two of them meet.
func TestP171NodesOfAllSmallThrees(t *testing.T) {
	all := smallSpans()
	for _, a := range all {
		for _, b := range all {
			for _, c := range all {
				s := stateOf(a, b, c)
				s.Now = 4
				want := api.Errno(0)
				for tick := range 9 {
					many := 0
					for _, j := range s.Jobs {
						if has(j, tick) {
							many++
						}
					}
					if many > 1 {
						want = 176
					}
				}
				if e := Check(s); e != want {
					t.Fatalf("Check(%s): %d, not %d", told(s), e, want)
				}
			}
		}
	}
}

// One common node is enough, whichever it is.
func TestP171NodesAnyCommonOne(t *testing.T) {
	even := make([]int, 128)
	for i := range even {
		even[i] = 2 * i
	}
	for common := range 256 {
		s := stateOf(job(2, 5, 0), job(3, 5, 7))
		s.Config.Nodes = 256
		s.Jobs[0].Nodes, s.Jobs[0].Set = 128, even
		odd := []int{common}
		for node := 1; node < 256; node += 2 {
			if node != common {
				odd = append(odd, node)
			}
		}
		slices.Sort(odd)
		s.Jobs[1].Nodes, s.Jobs[1].Set = len(odd), odd
		want := api.Errno(176)
		if common%2 == 1 {
			want = 0
		}
		wants(t, s, want)
	}
}

// A long job meets a late one, however many have come and gone between on other nodes.
func TestP171NodesFarApart(t *testing.T) {
	jobs := []api.Job{span(3, 1, 30, 0)}
	for at := 2; at < 29; at++ {
		jobs = append(jobs, span(4, at, at+1, 1), span(5, at, at, 0))
	}
	wants(t, spans(jobs...), 0)
	wants(t, spans(append(slices.Clone(jobs), span(2, 29, 0, 0))...), 176)
	wants(t, spans(append(slices.Clone(jobs), span(2, 30, 0, 0))...), 0)
	wants(t, spans(append([]api.Job{span(2, 29, 0, 0)}, jobs...)...), 176)
	wants(t, spans(append([]api.Job{span(2, 30, 0, 0)}, jobs...)...), 0)
	wants(t, spans(append(slices.Clone(jobs), span(4, 27, 28, 1))...), 176)
}

// The same nodes from hand to hand, by numbers that do not go with the times.
func TestP171NodesFromHandToHand(t *testing.T) {
	d := &dice{1}
	for range 50 {
		var jobs []api.Job
		for at := 1; at < 39; at++ {
			jobs = append(jobs, span(pick(d, []int{3, 4, 5}), at, at+1, 0))
		}
		jobs = shuffled(d, append(jobs, span(2, 39, 0, 0)))
		wants(t, spans(jobs...), 0)
		// One that ends a tick later meets the next.
		late := d.below(len(jobs))
		if jobs[late].State != 2 {
			jobs[late].End++
			if jobs[late].State == 4 {
				jobs[late].Limit++
			}
			wants(t, spans(jobs...), 176)
		}
	}
}

// Among very many jobs, two that meet are found, wherever they stand.
func TestP171NodesOfVeryManyJobs(t *testing.T) {
	s := stateOf()
	s.Config, s.Now = greatest(), horizon
	for n := range 4096 {
		s.Jobs = append(s.Jobs, api.Job{Account: 1, Nodes: 256, Limit: 3, State: 5, Start: 2*n + 1, End: 2*n + 3, Set: numbers(0, 256)})
	}
	wants(t, s, 0)
	for _, n := range []int{0, 1, 2047, 4094} {
		late := slices.Clone(s.Jobs)
		late[n].State, late[n].End = 4, 2*n+4
		spoilt := s
		spoilt.Jobs = late
		wants(t, spoilt, 176)
		slices.Reverse(late)
		wants(t, spoilt, 176)
	}
	// Behind the last one there is nobody whom it could meet.
	s.Jobs[4095].State, s.Jobs[4095].End = 4, 2*4095+4
	wants(t, s, 0)
}

// What an account's jobs ran, of each State, is as much as it may have.
func TestP171Usage(t *testing.T) {
	for _, x := range []struct {
		jobs []api.Job
		raw  uint64
	}{
		{nil, 0},
		{[]api.Job{pending()}, 0},
		{[]api.Job{job(6, 0, 9)}, 0},
		{[]api.Job{job(2, 9, 0, 0, 1)}, 0},
		{[]api.Job{job(2, 8, 0, 0, 1)}, 2},
		{[]api.Job{job(2, 5, 0, 0, 1)}, 8},
		{[]api.Job{job(3, 5, 5, 0, 1)}, 0},
		{[]api.Job{job(3, 5, 6, 0, 1)}, 2},
		{[]api.Job{job(5, 2, 6, 0, 1)}, 8},
		{[]api.Job{job(4, 2, 7, 0, 1)}, 10},
		{[]api.Job{job(4, 2, 7, 0, 1), job(6, 0, 3), job(3, 7, 9, 0, 1), pending(), job(5, 3, 6, 2, 3), job(2, 9, 0, 0, 1)}, 20},
	} {
		for _, y := range []struct {
			usage uint64
			want  api.Errno
		}{{x.raw * q, 0}, {x.raw*q + 1, 173}, {x.raw*q + q, 173}, {math.MaxUint64, 173}, {0, 0}} {
			s := stateOf(x.jobs...)
			s.Accounts[1].Usage = y.usage
			wants(t, s, y.want)
		}
		if x.raw > 0 {
			s := stateOf(x.jobs...)
			s.Accounts[1].Usage = x.raw*q - 1
			wants(t, s, 0)
		}
	}
}

// What others have used is not one's own, not even if they are below it or above it.
func TestP171UsageOfEachAlone(t *testing.T) {
	for _, x := range []struct {
		user, account int
		usage         uint64
		want          api.Errno
	}{
		{1, 1, 10 * q, 0}, {1, 1, 10*q + 1, 173}, {1, 0, 0, 0}, {1, 0, 1, 173}, {1, 2, 0, 0}, {1, 2, 1, 173},
		{2, 2, 10 * q, 0}, {2, 2, 10*q + 1, 173}, {2, 0, 1, 173}, {2, 1, 1, 173}, {2, 1, 0, 0},
	} {
		s := stateOf(job(4, 2, 7, 0, 1))
		s.Jobs[0].Account = x.user
		s.Accounts[x.account].Usage = x.usage
		wants(t, s, x.want)
	}
}

// Each account is asked, the last one of all too.
func TestP171UsageOfAll(t *testing.T) {
	s := stateOf()
	s.Accounts, s.Now = row(63), 1000
	for n := 1; n < 64; n++ {
		j := job(4, 5*n, 5*n+5, 0, 1)
		j.Account = n
		s.Jobs = append(s.Jobs, j)
		s.Accounts[n].Usage = 10 * q
	}
	wants(t, s, 0)
	for n := range s.Accounts {
		spoilt := deepCopy(s)
		spoilt.Accounts[n].Usage++
		wants(t, spoilt, 173)
	}
}

// From 2^32 node-ticks on no usage is above.
func TestP171UsageOfVeryMuch(t *testing.T) {
	s := stateOf()
	s.Config, s.Now = greatest(), horizon
	all := api.Job{Account: 1, Nodes: 256, Limit: 1 << 20, State: 4, Set: numbers(0, 256)}
	for n := range 16 {
		all.Start, all.End = n<<20+1, (n+1)<<20+1
		s.Jobs = append(s.Jobs, all)
	}
	s.Accounts[1].Usage = math.MaxUint64
	wants(t, s, 0)
	// One tick of all nodes less, and one of 255 more: 2^32 - 1.
	s.Jobs[15].State, s.Jobs[15].End = 3, s.Jobs[15].End-1
	part := api.Job{Account: 1, Nodes: 255, Limit: 1, State: 4, Start: 17 << 20, End: 17<<20 + 1, Set: numbers(1, 255)}
	s.Jobs = append(s.Jobs, part)
	wants(t, s, 173)
	s.Accounts[1].Usage = (q - 1) * q
	wants(t, s, 0)
	s.Accounts[1].Usage++
	wants(t, s, 173)
	// And just 2^32 with one node more.
	s.Jobs[16].Nodes, s.Jobs[16].Set = 256, numbers(0, 256)
	wants(t, s, 0)
	s.Accounts[1].Usage = 0
	wants(t, s, 0)
}

// As much as there can be: it is 2^40.
func TestP171UsageOfTheMost(t *testing.T) {
	s := stateOf()
	s.Config, s.Now = greatest(), horizon
	all := api.Job{Account: 1, Nodes: 256, Limit: 1 << 20, State: 4, Set: numbers(0, 256)}
	for n := range 4096 {
		all.Start, all.End = n<<20+1, (n+1)<<20+1
		s.Jobs = append(s.Jobs, all)
	}
	if raw := plainRaw(s, 1); raw.Cmp(whole(1<<40)) != 0 {
		t.Fatal(raw)
	}
	for _, usage := range []uint64{0, 1, q, 1 << 63, math.MaxUint64} {
		s.Accounts[1].Usage = usage
		wants(t, s, 0)
	}
	s.Accounts[2].Usage = 1
	wants(t, s, 173)
}

func TestP171Holder(t *testing.T) {
	late := pending()
	late.Submit = 9
	early := pending()
	early.Submit = 8
	jobs := []api.Job{pending(), job(6, 0, 3), job(2, 5, 0, 0, 1), job(3, 3, 4, 0, 1), job(4, 2, 7, 2, 3), job(5, 2, 3, 0, 1), pending(), early, late}
	for holder, want := range map[int]api.Errno{
		-1: 0, -2: 177, 0: 0, 1: 177, 2: 177, 3: 177, 4: 177, 5: 177, 6: 0, 7: 0, 8: 177, 9: 177, 10: 177, least: 177, most: 177, least + 1: 177, -horizon: 177,
	} {
		s := stateOf(jobs...)
		s.Holder = holder
		wants(t, s, want)
	}
	// A tick later the last one may hold, too; the number behind it is nobody's.
	s := stateOf(jobs...)
	s.Jobs[2].Start = 6
	s.Now, s.Holder = 10, len(jobs)-1
	wants(t, s, 0)
	s.Holder++
	wants(t, s, 177)
}

func TestP171HolderWithoutJobs(t *testing.T) {
	for holder, want := range map[int]api.Errno{-1: 0, -2: 177, 0: 177, 1: 177, least: 177, most: 177} {
		s := stateOf()
		s.Holder = holder
		wants(t, s, want)
	}
	// At the clock 0 nobody can hold yet.
	s := stateOf(pending())
	s.Now, s.Jobs[0].Submit, s.Holder = 0, 0, 0
	wants(t, s, 177)
	s.Now = 1
	wants(t, s, 0)
}

// drawnAccounts stand below any that were ahead of them and are not too deep.
func drawnAccounts(d *dice) []api.Account {
	l, depth := row(0), []int{0}
	for range pick(d, []int{1, 1, 2, 5, 63}) {
		n := len(l)
		parent := d.below(n)
		if depth[parent] == 4 {
			parent = 0
		}
		depth = append(depth, depth[parent]+1)
		l = append(l, api.Account{Name: "n" + strconv.Itoa(n), Parent: parent, Shares: d.from(1, 4096), Closed: d.below(4) == 0})
	}
	return l
}

// life is a machine on which drawn things happen, each of them one that may be.
type life struct {
	api.State
	d *dice
}

func drawnLife(d *dice) api.State {
	l := &life{api.State{Config: pick(d, configs()), Accounts: drawnAccounts(d), Holder: -1}, d}
	if d.yes() {
		l.Config.Limit = d.from(1, min(10, l.Config.Limit))
		l.Config.Nodes = d.from(1, l.Config.Nodes)
	}
	if config.Check(l.Config) != 0 {
		l.Config = example()
	}
	l.Now = pick(d, []int{0, d.below(100), horizon - config.Bound(l.Config) - d.below(20)})
	for range d.below(80) {
		l.step()
	}
	l.use()
	l.hold()
	return l.State
}

func (l *life) step() {
	switch l.d.below(9) {
	case 0, 1, 2:
		l.submit()
	case 3, 4:
		l.start()
	case 5:
		l.end()
	default:
		for range l.d.from(1, 3) {
			l.tick()
		}
	}
}

// those are the numbers of the jobs of a State.
func (l *life) those(state int) []int {
	var out []int
	for n, j := range l.Jobs {
		if j.State == state {
			out = append(out, n)
		}
	}
	return out
}

func (l *life) submit() {
	if len(l.those(1)) == l.Config.Queue || l.Now+config.Bound(l.Config) > horizon {
		return
	}
	j := api.Job{Account: l.d.from(1, len(l.Accounts)-1), Nodes: l.d.from(1, l.Config.Nodes), Limit: l.d.from(1, l.Config.Limit), Submit: l.Now, State: 1}
	if l.d.yes() {
		j.Nodes = min(j.Nodes, l.d.from(1, 3))
	}
	l.Jobs = append(l.Jobs, j)
}

func (l *life) start() {
	free := numbers(0, l.Config.Nodes)
	for _, n := range l.those(2) {
		free = slices.DeleteFunc(free, func(node int) bool { return slices.Contains(l.Jobs[n].Set, node) })
	}
	for _, n := range shuffled(l.d, l.those(1)) {
		j := &l.Jobs[n]
		if j.Submit < l.Now && j.Nodes <= len(free) {
			j.State, j.Start = 2, l.Now
			j.Set = shuffled(l.d, free)[:j.Nodes:j.Nodes]
			slices.Sort(j.Set)
			return
		}
	}
}

func (l *life) end() {
	who := append(l.those(1), l.those(2)...)
	if len(who) == 0 {
		return
	}
	j := &l.Jobs[pick(l.d, who)]
	j.End = l.Now
	if j.State == 1 {
		j.State = 6
	} else {
		j.State = pick(l.d, []int{3, 5})
	}
}

func (l *life) tick() {
	if l.Now == horizon {
		return
	}
	l.Now++
	for _, n := range l.those(2) {
		if j := &l.Jobs[n]; j.Start+j.Limit == l.Now {
			j.State, j.End = 4, l.Now
		}
	}
}

// use gives accounts as much usage as they may have, or less.
func (l *life) use() {
	for n := range l.Accounts {
		raw := plainRaw(l.State, n).Uint64()
		if raw == 0 {
			continue
		}
		l.Accounts[n].Usage = pick(l.d, []uint64{0, raw * q, raw*q - 1, l.d.word() % (raw * q)})
	}
}

func (l *life) hold() {
	for _, n := range l.those(1) {
		if l.Jobs[n].Submit < l.Now && l.d.below(3) == 0 {
			l.Holder = n
		}
	}
}

// otherNumber is one that may stand where n does, near it, at an edge, or any.
func otherNumber(d *dice, n, now int) int {
	return pick(d, []int{n + 1, n - 1, 0, 1, -1, now, now + 1, now - 1, n + d.from(-5, 5), d.from(0, 9), horizon, least, most, int(d.word())})
}

// changed has one drawn thing other than it was.
func changed(d *dice, s api.State) api.State {
	s = deepCopy(s)
	kind := d.below(12)
	if len(s.Jobs) == 0 || kind == 0 {
		s.Holder = otherNumber(d, d.below(len(s.Jobs)+1), s.Now)
		return s
	}
	j := &s.Jobs[d.below(len(s.Jobs))]
	switch kind {
	case 1:
		s.Now = otherNumber(d, s.Now, s.Now)
	case 2:
		s.Accounts[d.below(len(s.Accounts))].Usage += pick(d, []uint64{1, q, d.word()})
	case 3:
		c := &s.Config
		field := pick(d, []*int{&c.Nodes, &c.Queue, &c.Limit, &c.Age, &c.Size})
		*field = otherNumber(d, *field, 2)
	case 4:
		a := &s.Accounts[d.below(len(s.Accounts))]
		a.Parent = otherNumber(d, a.Parent, 1)
	case 5:
		j.State = d.from(0, 7)
	case 6:
		if len(j.Set) > 0 {
			i := d.below(len(j.Set))
			j.Set[i] = otherNumber(d, j.Set[i], s.Config.Nodes)
		}
	case 7:
		// A node of another job's, so that it is a set still.
		if other := s.Jobs[d.below(len(s.Jobs))]; len(j.Set) == 1 && len(other.Set) > 0 {
			j.Set[0] = pick(d, other.Set)
		}
	case 8:
		s.Jobs = append(s.Jobs, deepCopy(s).Jobs...)
		slices.SortStableFunc(s.Jobs, func(a, b api.Job) int { return a.Submit - b.Submit })
	default:
		field := pick(d, fieldsOf(j))
		*field = otherNumber(d, *field, s.Now)
	}
	return s
}

// drawnStates tells states of which most are taken, and states of which most are not.
func drawnStates(seed uint64, many int) (right, others []api.State) {
	d := &dice{seed}
	for range many {
		s := drawnLife(d)
		right = append(right, s)
		for range d.from(1, 3) {
			s = changed(d, s)
			others = append(others, s)
		}
	}
	return right, others
}

func TestP171DrawnStates(t *testing.T) {
	right, others := drawnStates(1000, 3000)
	seen := map[int]int{}
	for _, s := range right {
		wants(t, s, 0)
		for _, j := range s.Jobs {
			seen[j.State]++
		}
	}
	for state := 1; state <= 6; state++ {
		if seen[state] < 100 {
			t.Errorf("%d jobs of the State %d", seen[state], state)
		}
	}
	told := map[api.Errno]int{}
	for _, s := range others {
		told[checked(t, s)]++
	}
	for _, e := range []api.Errno{0, 170, 171, 172, 173, 174, 175, 176, 177} {
		if told[e] < 10 {
			t.Errorf("%d states with %d", told[e], e)
		}
	}
}

// Any numbers whatever are answered.
func TestR1AnyNumbers(t *testing.T) {
	d := &dice{2000}
	number := func() int {
		return pick(d, append(extremes(), 0, 1, 2, 3, 4, 9, -1, horizon, horizon+1, int(d.word())))
	}
	for range 20000 {
		s := api.State{Config: example(), Now: d.from(0, 20), Accounts: three(), Holder: number()}
		if d.below(10) == 0 {
			s.Now = number()
		}
		if d.below(10) == 0 {
			s.Accounts[d.below(3)].Parent = number()
		}
		for range d.below(4) {
			var j api.Job
			for _, field := range fieldsOf(&j) {
				*field = number()
				if d.yes() {
					*field = d.from(0, 9)
				}
			}
			for range d.below(5) {
				j.Set = append(j.Set, number())
			}
			s.Jobs = append(s.Jobs, j)
		}
		checked(t, s)
	}
}

// sound is P17.2, of a state that is taken.
func sound(t *testing.T, s api.State) (running int) {
	t.Helper()
	var all []int
	for n, j := range s.Jobs {
		if j.State != 2 {
			continue
		}
		running++
		if len(j.Set) != j.Nodes || j.Nodes < 1 {
			t.Fatalf("%s: %d has %d nodes", told(s), n, len(j.Set))
		}
		if sum(j.Start, j.Limit).Cmp(whole(s.Now)) <= 0 {
			t.Fatalf("%s: %d is due", told(s), n)
		}
		all = append(all, j.Set...)
	}
	slices.Sort(all)
	many := len(all)
	if len(slices.Compact(all)) != many {
		t.Fatalf("%s: a node of two jobs", told(s))
	}
	for _, node := range all {
		if node < 0 || node >= s.Config.Nodes {
			t.Fatalf("%s: no node %d", told(s), node)
		}
	}
	return running
}

func TestP172RunningJobs(t *testing.T) {
	right, others := drawnStates(3000, 3000)
	taken, running := 0, 0
	for _, s := range append(right, others...) {
		if Check(s) == api.OK {
			taken++
			running += sound(t, s)
		}
	}
	if taken < 3500 || running < 1000 {
		t.Error(taken, running)
	}
}

// Small states of two running jobs, all of them: those that are taken are sound.
func TestP172AllSmallStates(t *testing.T) {
	taken := 0
	for starts := range 16 {
		for sets := range 36 {
			for nodes := range 16 {
				s := stateOf(job(2, 3+starts%4, 0, sets%6-1), job(2, 3+starts/4, 0, sets/6-1))
				s.Now = 6
				s.Jobs[0].Nodes, s.Jobs[1].Nodes = nodes%4, nodes/4
				s.Jobs[0].Limit, s.Jobs[1].Limit = 2, 3
				if checked(t, s) == api.OK {
					taken++
					sound(t, s)
				}
			}
		}
	}
	if taken == 0 {
		t.Error("none is taken")
	}
}

// renamed has other nodes, one in one, each Set rising again.
func renamed(s api.State, name []int) api.State {
	s = deepCopy(s)
	for _, j := range s.Jobs {
		for i, node := range j.Set {
			j.Set[i] = name[node]
		}
		slices.Sort(j.Set)
	}
	return s
}

// hasSets tells whether each Set is one of the machine's nodes, so that they can be renamed.
func hasSets(s api.State) bool {
	return !slices.ContainsFunc(s.Jobs, func(j api.Job) bool {
		return isStarted(j.State) && !plainSet(j, s.Config.Nodes) || !isStarted(j.State) && len(j.Set) > 0
	})
}

func TestP173NodesRenamed(t *testing.T) {
	d := &dice{4000}
	right, others := drawnStates(4500, 1500)
	many := map[api.Errno]int{}
	for _, s := range append(right, others...) {
		e := Check(s)
		if e == 170 || !hasSets(s) {
			continue
		}
		many[e]++
		back := numbers(0, s.Config.Nodes)
		slices.Reverse(back)
		for _, name := range [][]int{back, shuffled(d, back), shuffled(d, back)} {
			wants(t, renamed(s, name), e)
		}
	}
	if many[0] < 1500 || many[176] < 10 {
		t.Error(many)
	}
}

// Two jobs on all of the nodes of a small machine, by each of its renamings.
func TestP173AllRenamings(t *testing.T) {
	var names [][]int
	var grow func(l []int)
	grow = func(l []int) {
		if len(l) == 4 {
			names = append(names, slices.Clone(l))
			return
		}
		for node := range 4 {
			if !slices.Contains(l, node) {
				grow(append(slices.Clone(l), node))
			}
		}
	}
	grow(nil)
	for _, name := range names {
		wants(t, renamed(stateOf(job(4, 2, 7, 0, 1), job(2, 7, 0, 1, 2), job(2, 5, 0, 0, 3)), name), 176)
		wants(t, renamed(stateOf(job(4, 2, 7, 0, 1), job(2, 7, 0, 1, 2), job(2, 7, 0, 0, 3)), name), 0)
		wants(t, renamed(stateOf(job(3, 2, 4, 0, 1), job(5, 4, 7, 0, 1), job(2, 6, 0, 2, 3)), name), 0)
	}
	if len(names) != 24 {
		t.Error(len(names))
	}
}

// otherAccounts have other names and shares, and are closed or not as it is drawn.
func otherAccounts(d *dice, s api.State) api.State {
	s = deepCopy(s)
	letters := "abcXYZ019-_"
	for n := range s.Accounts {
		if n == 0 {
			continue
		}
		a := &s.Accounts[n]
		// No two are alike, as they are not up to the `x`.
		a.Name = strconv.Itoa(d.from(1, 9)*100+n) + "x"
		for range d.below(29) {
			a.Name += letters[d.below(len(letters)):][:1]
		}
		a.Shares = pick(d, []int{1, 4096, d.from(1, 4096)})
		a.Closed = d.yes()
	}
	return s
}

func TestP173AccountsOther(t *testing.T) {
	d := &dice{5000}
	right, others := drawnStates(5500, 1500)
	refused := 0
	for _, s := range append(right, others...) {
		if _, e := tree.Load(s.Accounts); e != api.OK {
			continue
		}
		e := Check(s)
		for range 3 {
			other := otherAccounts(d, s)
			if _, was := tree.Load(other.Accounts); was != api.OK {
				t.Fatal(was)
			}
			wants(t, other, e)
		}
		if e != api.OK {
			refused++
		}
	}
	if refused < 500 {
		t.Error(refused)
	}
}

func TestP173ClosedAndOpened(t *testing.T) {
	for state := 1; state <= 6; state++ {
		for closed := range 4 {
			for _, shares := range []int{1, 7, 4096} {
				s := one(state)
				s.Accounts[1].Closed, s.Accounts[2].Closed = closed&1 == 1, closed&2 == 2
				s.Accounts[1].Shares, s.Accounts[2].Shares = shares, 4097-shares
				wants(t, s, 0)
				s.Jobs[0].Account = 2
				wants(t, s, 0)
				s.Jobs[0].Account = 3
				wants(t, s, 174)
			}
		}
	}
}

// taken are drawn states that Check takes.
func taken(seed uint64, many int) []api.State {
	right, others := drawnStates(seed, many)
	return slices.DeleteFunc(append(right, others...), func(s api.State) bool { return Check(s) != api.OK })
}

func TestP174WithoutThePendingOneThatIsLast(t *testing.T) {
	many := 0
	for _, s := range taken(6000, 2000) {
		for last := len(s.Jobs) - 1; last >= 0 && s.Jobs[last].State == 1 && s.Holder != last; last-- {
			s.Jobs = s.Jobs[:last]
			wants(t, s, 0)
			many++
		}
	}
	if many < 500 {
		t.Error(many)
	}
}

func TestP174WithNobodyHolding(t *testing.T) {
	many := 0
	for _, s := range taken(7000, 2000) {
		if s.Holder != -1 {
			many++
		}
		s.Holder = -1
		wants(t, s, 0)
	}
	if many < 200 {
		t.Error(many)
	}
}

func TestP174WithLessUsage(t *testing.T) {
	d := &dice{8000}
	many := 0
	for _, s := range taken(8500, 2000) {
		for range 3 {
			s = deepCopy(s)
			for n := range s.Accounts {
				if usage := &s.Accounts[n].Usage; *usage > 0 {
					many++
					*usage = pick(d, []uint64{*usage, *usage - 1, d.word() % *usage, 0})
				}
			}
			wants(t, s, 0)
		}
	}
	if many < 500 {
		t.Error(many)
	}
}

// All three at once.
func TestP174Together(t *testing.T) {
	for _, s := range taken(9000, 1000) {
		s = deepCopy(s)
		s.Holder = -1
		for n := range s.Accounts {
			s.Accounts[n].Usage /= 2
		}
		for len(s.Jobs) > 0 && s.Jobs[len(s.Jobs)-1].State == 1 {
			s.Jobs = s.Jobs[:len(s.Jobs)-1]
		}
		wants(t, s, 0)
	}
}

func TestR3NoListAndAnEmptyOne(t *testing.T) {
	s := stateOf()
	for _, jobs := range [][]api.Job{nil, {}, make([]api.Job, 0, 5), []api.Job{job(7, 0, 0)}[:0]} {
		s.Jobs = jobs
		wants(t, s, 0)
	}
	for _, accounts := range [][]api.Account{nil, {}, three()[:0]} {
		s.Accounts = accounts
		wants(t, s, 172)
	}
}

func TestR4HandedInStays(t *testing.T) {
	right, others := drawnStates(10000, 300)
	for _, s := range append(right, others...) {
		// Behind the ends of the lists there is more, which nobody is to see.
		for n := range s.Jobs {
			set := &s.Jobs[n].Set
			*set = append(slices.Clone(*set), 77, 78)
		}
		s.Accounts = append(slices.Clone(s.Accounts), account("spare", 0))
		s.Jobs = append(slices.Clone(s.Jobs), job(7, 1, 2, 3), job(2, 5, 0, 0, 1))
		handed := s
		handed.Accounts, handed.Jobs = s.Accounts[:len(s.Accounts)-1], s.Jobs[:len(s.Jobs)-2]
		for n := range handed.Jobs {
			set := &handed.Jobs[n].Set
			*set = (*set)[:len(*set)-2]
		}
		whole := deepCopy(s)
		spare := make([][]int, len(handed.Jobs))
		for n, j := range handed.Jobs {
			spare[n] = slices.Clone(j.Set[:len(j.Set)+2])
		}
		checked(t, handed)
		if !reflect.DeepEqual(s, whole) {
			t.Fatalf("%s is %s now", told(whole), told(s))
		}
		for n, j := range handed.Jobs {
			if !slices.Equal(spare[n], j.Set[:len(j.Set)+2]) {
				t.Fatal(n, spare[n], j.Set[:len(j.Set)+2])
			}
		}
	}
}

func TestR5AnswersAlike(t *testing.T) {
	right, others := drawnStates(11000, 100)
	for _, s := range append(right, others...) {
		want := Check(s)
		if e := Check(s); e != want {
			t.Fatalf("Check(%s): %d, and then %d", told(s), want, e)
		}
		if e := Check(deepCopy(s)); e != want {
			t.Fatalf("Check(%s): %d, and of the same %d", told(s), want, e)
		}
		var wait sync.WaitGroup
		for range 8 {
			wait.Go(func() {
				if Check(s) != want {
					t.Error("another answer")
				}
			})
		}
		wait.Wait()
	}
}

// What is thrown ends within the call; what others throw is not caught there.
func TestR1ThrownWithin(t *testing.T) {
	var inner []api.Errno
	outer := func() (thrown any) {
		defer func() { thrown = recover() }()
		defer func() {
			for i := range spoils() {
				inner = append(inner, Check(spoiled(i)))
			}
			inner = append(inner, Check(spoiled()))
		}()
		panic("a caller's own")
	}()
	if outer != "a caller's own" {
		t.Error(outer)
	}
	if !slices.Equal(inner, []api.Errno{170, 171, 172, 174, 175, 176, 173, 177, 0}) {
		t.Error(inner)
	}
}

// FuzzCheck holds any two jobs, and a drawn life with anything changed, against the plain words.
func FuzzCheck(f *testing.F) {
	f.Add(uint64(1), 9, 2, 5, 0, 3, 2, 6, 1)
	f.Add(uint64(2), 9, 4, 2, 7, 2, 7, 0, -1)
	f.Add(uint64(3), horizon, 1, 0, 0, 6, 0, horizon, 0)
	f.Add(uint64(4), most, 4, most, least+4, 2, least, 0, most)
	f.Fuzz(func(t *testing.T, seed uint64, now, state, start, end, state2, start2, end2, holder int) {
		d := &dice{seed}
		s := stateOf(fitting(job(state, start, end)), fitting(job(state2, start2, end2)))
		s.Now, s.Holder = now, holder
		checked(t, s)
		drawn := drawnLife(d)
		checked(t, drawn)
		drawn = changed(d, drawn)
		drawn.Jobs = append(drawn.Jobs, s.Jobs...)
		checked(t, drawn)
		drawn.Holder = holder
		checked(t, changed(d, drawn))
	})
}

package core

import (
	"math"
	"math/bits"
	"strconv"
	"strings"
	"testing"

	"backfill/api"
	"backfill/config"
	"backfill/share"
	"backfill/tree"
	"backfill/verbs"
)

// spoil makes a command, or the state in which it is told, one of which an error is told.
type spoil struct {
	e  api.Errno
	do func(s *api.State, c *api.Cmd)
}

// ofEach tells each list of spoils, in their order.
func ofEach(all []spoil, then func(l []spoil)) {
	for which := range 1 << len(all) {
		var l []spoil
		for i, one := range all {
			if which>>i&1 == 1 {
				l = append(l, one)
			}
		}
		then(l)
	}
}

// firstTold holds each list of spoils against the first one's error; where there is none nothing is refused. The last spoils are done first, so that the first of two that do the same thing has its way.
func firstTold(t *testing.T, s api.State, c api.Cmd, all []spoil) {
	t.Helper()
	ofEach(all, func(l []spoil) {
		state, command := deepCopy(s), c
		for i := range l {
			l[len(l)-1-i].do(&state, &command)
		}
		x := loaded(t, state)
		if len(l) > 0 {
			refuses(t, x, command, l[0].e)
		} else if a := done(t, x, command); a.Code != 0 {
			t.Errorf("%+v: %d", command, a.Code)
		}
	})
}

// three has the root, a below it, b below a and the closed d beside a, and no jobs.
func three() api.State {
	s := api.State{Config: example(), Now: 5, Holder: -1}
	s.Accounts = []api.Account{account("root", -1), account("a", 0), account("b", 1), account("d", 0)}
	s.Accounts[3].Closed = true
	return s
}

func droppedJobs(s *api.State, many int) {
	for range many {
		s.Jobs = append(s.Jobs, api.Job{Account: 1, Nodes: 4, Limit: 10, State: 6, End: s.Now})
	}
}

func TestP184SubmitErrors(t *testing.T) {
	s := three()
	s.Config.Queue = 3
	for _, way := range []struct {
		verb                         api.Cmd
		name                         string
		closed, nodes, limit, behind int
	}{
		{api.Cmd{Ticks: 1}, "nobody", 2, 5, 11, 1},
		{api.Cmd{Job: -1}, "root", 1, 0, 0, config.Bound(s.Config)},
	} {
		firstTold(t, s, api.Cmd{Kind: 1, Name: "b", Nodes: 1, Limit: 1}, []spoil{
			{84, func(_ *api.State, c *api.Cmd) { c.Ticks, c.Job = way.verb.Ticks, way.verb.Job }},
			{181, func(_ *api.State, c *api.Cmd) { c.Name = way.name }},
			{184, func(s *api.State, _ *api.Cmd) { s.Accounts[way.closed].Closed = true }},
			{185, func(_ *api.State, c *api.Cmd) { c.Nodes = way.nodes }},
			{186, func(_ *api.State, c *api.Cmd) { c.Limit = way.limit }},
			{187, func(s *api.State, _ *api.Cmd) { fillQueue(s, 3) }},
			{188, func(s *api.State, _ *api.Cmd) { droppedJobs(s, 4096) }},
			{180, func(s *api.State, _ *api.Cmd) { s.Now = horizon - config.Bound(s.Config) + way.behind }},
		})
	}
}

// fillQueue makes the first jobs pending, so many; where there are none they are new.
func fillQueue(s *api.State, many int) {
	if len(s.Jobs) == 0 {
		droppedJobs(s, many)
	}
	for n := range many {
		s.Jobs[n].State, s.Jobs[n].End = 1, 0
	}
}

func TestP184SubmitNodesAndLimit(t *testing.T) {
	for _, c := range configs() {
		for _, x := range []struct {
			nodes, limit int
			want         api.Errno
		}{
			{1, 1, 0}, {c.Nodes, c.Limit, 0}, {1, c.Limit, 0}, {c.Nodes, 1, 0},
			{0, 1, 185}, {c.Nodes + 1, 1, 185}, {most, 1, 185}, {257, 1, 185}, {0, 0, 185}, {c.Nodes + 1, c.Limit + 1, 185},
			{1, 0, 186}, {1, c.Limit + 1, 186}, {1, most, 186}, {c.Nodes, 1<<20 + 1, 186},
			{-1, 1, 84}, {1, -1, 84}, {least, 1, 84}, {1, least, 84},
		} {
			core := begun(t, c, "account a root 1")
			submit := api.Cmd{Kind: 1, Name: "a", Nodes: x.nodes, Limit: x.limit}
			if x.want != 0 {
				refuses(t, core, submit, x.want)
				continue
			}
			want := api.Answer{Id: 0, Events: []api.Event{{Kind: 1, Job: 0, At: 0, Nodes: x.nodes, Limit: x.limit}}}
			if a := done(t, core, submit); !sameAnswer(a, want) {
				t.Errorf("%+v, not %+v", a, want)
			}
			job := api.Job{Account: 1, Nodes: x.nodes, Limit: x.limit, Submit: 0, State: 1}
			if s := core.State(); len(s.Jobs) != 1 || !sameAnswer(api.Answer{Job: s.Jobs[0]}, api.Answer{Job: job}) {
				t.Errorf("%+v, not %+v", s.Jobs, job)
			}
		}
	}
}

func TestP184SubmitIsNumberedAndTimed(t *testing.T) {
	x := begun(t, example(), "account a root 1", "account b a 1", "tick 7")
	says(t, x, "submit b 2 3", "job 0", "submit 0 7 2 3")
	says(t, x, "submit a 4 10", "job 1", "submit 1 7 4 10")
	says(t, x, "cancel 0", "ok", "end 0 7 dropped")
	does(t, x, "tick 2")
	says(t, x, "submit b 1 1", "job 2", "submit 2 9 1 1")
	says(t, x, "job 0", "job 2 2 3 7 dropped 0 7")
	says(t, x, "job 1", "job 1 4 10 7 running 8 0 0 1 2 3")
	says(t, x, "job 2", "job 2 1 1 9 pending 0 0")
	says(t, x, "submit c 1 1", "error 181")
	says(t, x, "submit root 1 1", "error 181")
}

// What is pending or runs goes on, where an account is closed; and one that is moved out from below a closed one is open again.
func TestP184SubmitClosed(t *testing.T) {
	x := begun(t, example(), "account a root 1", "account b a 1", "account c b 1", "account d c 1", "account e root 1",
		"submit d 3 5", "submit d 3 5", "submit b 1 9", "tick 1")
	does(t, x, "close b")
	says(t, x, "submit a 1 1", "job 3", "submit 3 1 1 1")
	for _, name := range []string{"b", "c", "d"} {
		says(t, x, "submit "+name+" 1 1", "error 184")
	}
	says(t, x, "tick 1", "ok", "tick 2", "pass 2 1 3")
	says(t, x, "complete 0", "ok", "end 0 2 completed")
	says(t, x, "tick 1", "ok", "tick 3", "pass 3 1 3", "start 1 3 0 1 2", "pin 3 3")
	does(t, x, "move c e")
	says(t, x, "submit d 1 1", "job 4", "submit 4 3 1 1")
	says(t, x, "submit b 1 1", "error 184")
	does(t, x, "move c b")
	says(t, x, "submit d 1 1", "error 184")
	does(t, x, "close a", "close e")
	says(t, x, "submit a 1 1", "error 184")
	says(t, x, "submit e 1 1", "error 184")
	does(t, x, "cancel 1", "cancel 4", "tick 10", "account f e 1")
	says(t, x, "submit f 1 1", "error 184")
}

func TestP184SubmitQueue(t *testing.T) {
	for _, queue := range []int{1, 2, 8, 128} {
		c := example()
		c.Queue = queue
		x := begun(t, c, "account a root 1")
		for range queue {
			does(t, x, "submit a 4 1")
		}
		says(t, x, "submit a 1 1", "error 187")
		// Who runs does not count, nor who has ended.
		does(t, x, "tick 1", "submit a 4 1")
		says(t, x, "submit a 1 1", "error 187")
		does(t, x, "cancel "+strconv.Itoa(queue), "submit a 1 1")
		says(t, x, "submit a 1 1", "error 187")
		does(t, x, "complete 0")
		says(t, x, "submit a 1 1", "error 187")
	}
}

func TestP184SubmitRecords(t *testing.T) {
	x := begun(t, example(), "account a root 1")
	for n := range 4096 {
		// Not held against anything: a state of so many jobs is long.
		a := x.Do(api.Cmd{Kind: 1, Name: "a", Nodes: 1, Limit: 1})
		if a.Code != 0 || a.Id != n {
			t.Fatal(n, a)
		}
		if n < 4090 {
			x.Do(api.Cmd{Kind: 2, Job: n})
		}
	}
	says(t, x, "submit a 1 1", "error 188")
	does(t, x, "tick 3")
	says(t, x, "submit a 1 1", "error 188")
	says(t, x, "job 4095", "job 1 1 1 0 killed 2 3 1")
	says(t, x, "job 4096", "error 182")
	does(t, x, "tick 1", "account b root 1")
	says(t, x, "submit b 1 1", "error 188")
}

func TestP184SubmitHorizon(t *testing.T) {
	for _, c := range configs() {
		bound := config.Bound(c)
		s := three()
		s.Config, s.Now = c, horizon-bound
		x := loaded(t, s)
		does(t, x, "submit a 1 1", "cancel 0", "tick 1")
		says(t, x, "submit a 1 1", "error 180")
		does(t, x, "tick 1")
		says(t, x, "submit a 1 1", "error 180")
		s.Now = horizon
		says(t, loaded(t, s), "submit a 1 1", "error 180")
	}
}

// states has a job of each State, by its number, at 9; 0 is dropped, since there is no State 0.
func states() api.State {
	s := three()
	s.Now = 9
	job := func(state, start, end int, set ...int) {
		s.Jobs = append(s.Jobs, api.Job{Account: 2, Nodes: 1, Limit: 5, Submit: 1, State: state, Start: start, End: end, Set: set})
	}
	job(6, 0, 1)
	job(1, 0, 0)
	job(2, 5, 0, 2)
	job(3, 2, 6, 0)
	job(4, 2, 7, 1)
	job(5, 3, 3, 3)
	job(6, 0, 9)
	return s
}

func TestP184CancelAndComplete(t *testing.T) {
	for state := 1; state <= 6; state++ {
		cancel, complete := api.Cmd{Kind: 2, Job: state}, api.Cmd{Kind: 3, Job: state}
		x, y := loaded(t, states()), loaded(t, states())
		n := strconv.Itoa(state)
		switch state {
		case 1:
			says(t, x, "cancel 1", "ok", "end 1 9 dropped")
			says(t, x, "job 1", "job 2 1 5 1 dropped 0 9")
			refuses(t, y, complete, 183)
		case 2:
			says(t, x, "cancel 2", "ok", "end 2 9 stopped")
			says(t, x, "job 2", "job 2 1 5 1 stopped 5 9 2")
			says(t, x, "nodes", "free 4")
			says(t, y, "complete 2", "ok", "end 2 9 completed")
			says(t, y, "job 2", "job 2 1 5 1 completed 5 9 2")
			says(t, y, "nodes", "free 4")
		default:
			refuses(t, x, cancel, 183)
			refuses(t, y, complete, 183)
		}
		// Once it has ended, it stays so.
		says(t, x, "cancel "+n, "error 183")
		says(t, x, "complete "+n, "error 183")
	}
}

func TestP184CancelOfTheHolder(t *testing.T) {
	begin := []string{"account a root 1", "submit a 3 5", "submit a 3 5", "submit a 4 5", "tick 1"}
	x := begun(t, example(), begin...)
	says(t, x, "queue", "holder 1 6", "1 1", "2 1")
	says(t, x, "cancel 2", "ok", "end 2 1 dropped")
	says(t, x, "queue", "holder 1 6", "1 1")
	says(t, x, "cancel 1", "ok", "end 1 1 dropped")
	says(t, x, "queue", "holder -1 0")
	if h := x.State().Holder; h != -1 {
		t.Error(h)
	}
	y := begun(t, example(), begin...)
	does(t, y, "cancel 1")
	says(t, y, "queue", "holder -1 0", "2 1")
	says(t, y, "tick 1", "ok", "tick 2", "pass 2 2", "pin 2 2")
	// Who runs has nothing to do with who holds.
	says(t, y, "cancel 0", "ok", "end 0 2 stopped")
	says(t, y, "queue", "holder 2 0", "2 2")
}

func TestP184JobNumbers(t *testing.T) {
	for _, kind := range []int{2, 3, 9} {
		x := loaded(t, states())
		for job, want := range map[int]api.Errno{-1: 84, least: 84, 7: 182, 8: 182, 4096: 182, most: 182} {
			refuses(t, x, api.Cmd{Kind: kind, Job: job}, want)
		}
		none := begun(t, example())
		for job, want := range map[int]api.Errno{-1: 84, least: 84, 0: 182, most: 182} {
			refuses(t, none, api.Cmd{Kind: kind, Job: job}, want)
		}
		// A field that is not its own is told ahead of a job that is not there.
		refuses(t, x, api.Cmd{Kind: kind, Job: 7, Ticks: 1}, 84)
		refuses(t, x, api.Cmd{Kind: kind, Job: 3, Name: "a"}, 84)
	}
}

func TestP184TickErrors(t *testing.T) {
	firstTold(t, three(), api.Cmd{Kind: 4, Ticks: 200}, []spoil{
		{84, alien},
		{189, func(_ *api.State, c *api.Cmd) { c.Ticks = 257 }},
		{180, func(s *api.State, _ *api.Cmd) { s.Now = horizon - 199 }},
	})
	for ticks, want := range map[int]api.Errno{-1: 84, least: 84, 0: 189, 257: 189, 1000: 189, most: 189, horizon: 189} {
		for _, now := range []int{0, 5, horizon - 256, horizon - 1, horizon} {
			s := three()
			s.Now = now
			refuses(t, loaded(t, s), api.Cmd{Kind: 4, Ticks: ticks}, want)
		}
	}
}

func TestP184TickHorizon(t *testing.T) {
	for _, ticks := range []int{1, 2, 100, 255, 256} {
		s := three()
		s.Now = horizon - ticks
		x := loaded(t, s)
		if a := done(t, x, api.Cmd{Kind: 4, Ticks: ticks}); a.Code != 0 || x.State().Now != horizon {
			t.Error(ticks, a.Code, x.State().Now)
		}
		says(t, x, "tick 1", "error 180")
		s.Now++
		refuses(t, loaded(t, s), api.Cmd{Kind: 4, Ticks: ticks}, 180)
		s.Now = horizon
		refuses(t, loaded(t, s), api.Cmd{Kind: 4, Ticks: ticks}, 180)
	}
	x := begun(t, example())
	for _, ticks := range []int{1, 256} {
		before := x.State().Now
		if a := done(t, x, api.Cmd{Kind: 4, Ticks: ticks}); a.Code != 0 || x.State().Now != before+ticks {
			t.Error(ticks, a.Code, x.State().Now)
		}
	}
}

// At the clock's end all but ticks and submits goes on.
func TestP184AtTheHorizon(t *testing.T) {
	s := three()
	s.Now, s.Holder = horizon, 1
	submit := horizon - config.Bound(s.Config)
	s.Jobs = []api.Job{
		{Account: 1, Nodes: 3, Limit: 10, Submit: submit, State: 2, Start: horizon, Set: []int{0, 1, 3}},
		{Account: 1, Nodes: 2, Limit: 10, Submit: submit, State: 1},
	}
	x := loaded(t, s)
	says(t, x, "queue", "holder 1 "+strconv.Itoa(horizon+10), "1 81")
	says(t, x, "tick 1", "error 180")
	says(t, x, "submit a 1 1", "error 180")
	says(t, x, "nodes", "free 1")
	says(t, x, "account e root 1", "account 4")
	says(t, x, "complete 0", "ok", "end 0 1099511627776 completed")
	says(t, x, "queue", "holder 1 0", "1 81")
	says(t, x, "cancel 1", "ok", "end 1 1099511627776 dropped")
}

// full has as many accounts as may be: a to d are 1 to 4 deep, the others stand below the root.
func full(many int) api.State {
	s := api.State{Config: example(), Holder: -1, Accounts: []api.Account{account("root", -1)}}
	for n, name := range []string{"a", "b", "c", "d"} {
		s.Accounts = append(s.Accounts, account(name, n))
	}
	for n := len(s.Accounts); n < many; n++ {
		s.Accounts = append(s.Accounts, account("n"+strconv.Itoa(n), 0))
	}
	return s
}

func TestP184AccountErrors(t *testing.T) {
	firstTold(t, full(63), api.Cmd{Kind: 5, Name: "new", Parent: "c", Shares: 7}, []spoil{
		{84, alien},
		{61, func(_ *api.State, c *api.Cmd) { c.Name = "d" }},
		{62, func(_ *api.State, c *api.Cmd) { c.Parent = "nobody" }},
		{63, func(_ *api.State, c *api.Cmd) { c.Shares = 4097 }},
		{64, func(_ *api.State, c *api.Cmd) { c.Parent = "d" }},
		{65, func(s *api.State, _ *api.Cmd) { s.Accounts = full(64).Accounts }},
	})
	x := begun(t, example())
	for _, bad := range []string{"", "a b", "ä", strings.Repeat("x", 33)} {
		refuses(t, x, api.Cmd{Kind: 5, Name: bad, Parent: "root", Shares: 1}, 84)
		refuses(t, x, api.Cmd{Kind: 5, Name: "a", Parent: bad, Shares: 1}, 84)
	}
	refuses(t, x, api.Cmd{Kind: 5, Name: "a", Parent: "root", Shares: 0}, 63)
	refuses(t, x, api.Cmd{Kind: 5, Name: "a", Parent: "root", Shares: -1}, 84)
	refuses(t, x, api.Cmd{Kind: 5, Name: "root", Parent: "root", Shares: 1}, 61)
}

func TestP184Account(t *testing.T) {
	x := begun(t, example())
	says(t, x, "account a root 4096", "account 1")
	says(t, x, "account "+strings.Repeat("z", 32)+" a 1", "account 2")
	says(t, x, "submit a 1 5", "job 0", "submit 0 0 1 5")
	does(t, x, "tick 3")
	// A new one has no usage, whatever others have.
	says(t, x, "account b a 2", "account 3")
	a := x.State().Accounts
	want := []api.Account{
		account("root", -1), {Name: "a", Parent: 0, Shares: 4096, Usage: 2 * q}, {Name: strings.Repeat("z", 32), Parent: 1, Shares: 1}, {Name: "b", Parent: 1, Shares: 2},
	}
	if !sameState(api.State{Accounts: a}, api.State{Accounts: want}) {
		t.Errorf("%+v", a)
	}
	for n := 4; n < 64; n++ {
		says(t, x, "account n"+strconv.Itoa(n)+" root 1", "account "+strconv.Itoa(n))
	}
	says(t, x, "account more root 1", "error 65")
	says(t, x, "submit n63 1 5", "job 1", "submit 1 3 1 5")
	does(t, x, "tick 3")
	if u := x.State().Accounts[63].Usage; u != 2*q {
		t.Error(u)
	}
}

func TestP184SharesErrors(t *testing.T) {
	name := func(name string) func(*api.State, *api.Cmd) { return func(_ *api.State, c *api.Cmd) { c.Name = name } }
	shares := func(_ *api.State, c *api.Cmd) { c.Shares = 0 }
	firstTold(t, full(5), api.Cmd{Kind: 6, Name: "a", Shares: 4096}, []spoil{{84, alien}, {62, name("nobody")}, {66, name("root")}, {63, shares}})
	firstTold(t, full(5), api.Cmd{Kind: 8, Name: "a"}, []spoil{{84, alien}, {62, name("nobody")}, {66, name("root")}})
	x := begun(t, example(), "account a root 1")
	refuses(t, x, api.Cmd{Kind: 6, Name: "a", Shares: 4097}, 63)
	refuses(t, x, api.Cmd{Kind: 6, Name: "a", Shares: -1}, 84)
	says(t, x, "shares a 4096", "ok")
	if s := x.State(); s.Accounts[1].Shares != 4096 {
		t.Error(s)
	}
	says(t, x, "close a", "ok")
	says(t, x, "close a", "ok")
	if s := x.State(); !s.Accounts[1].Closed || s.Accounts[0].Closed {
		t.Error(s)
	}
}

// alien gives a command a field that is none of its kind's.
func alien(_ *api.State, c *api.Cmd) { c.Limit = 2 }

func TestP184MoveErrors(t *testing.T) {
	name := func(name string) func(*api.State, *api.Cmd) { return func(_ *api.State, c *api.Cmd) { c.Name = name } }
	parent := func(parent string) func(*api.State, *api.Cmd) {
		return func(_ *api.State, c *api.Cmd) { c.Parent = parent }
	}
	firstTold(t, full(8), api.Cmd{Kind: 7, Name: "b", Parent: "root"}, []spoil{{84, alien}, {62, name("nobody")}, {66, name("root")}, {62, parent("nobody")}, {67, parent("d")}})
	firstTold(t, full(8), api.Cmd{Kind: 7, Name: "b", Parent: "n6"}, []spoil{{84, alien}, {62, name("nobody")}, {66, name("root")}, {67, parent("b")}})
	firstTold(t, full(8), api.Cmd{Kind: 7, Name: "n5", Parent: "c"}, []spoil{{84, alien}, {62, name("nobody")}, {66, name("root")}, {62, parent("nobody")}, {64, parent("d")}})
	x := loaded(t, full(8))
	says(t, x, "move a n5", "error 64")
	says(t, x, "move c n5", "ok")
	says(t, x, "move n5 b", "error 64")
	says(t, x, "move n5 a", "ok")
	if s := x.State(); s.Accounts[3].Parent != 5 || s.Accounts[5].Parent != 1 {
		t.Error(s.Accounts)
	}
}

// All four commands are the tree's: each name with each parent and some shares, held against a tree alone.
func TestP184AsTheTreeSays(t *testing.T) {
	s := full(8)
	s.Accounts[6].Closed = true
	names := []string{"root", "a", "b", "c", "d", "n5", "n6", "n7", "new", "nobody"}
	asked := func(c api.Cmd, do func(t *tree.Tree) (int, api.Errno)) {
		other, _ := tree.Load(s.Accounts)
		id, e := do(other)
		x := loaded(t, s)
		if a := done(t, x, c); !sameAnswer(a, api.Answer{Code: e, Id: id}) {
			t.Errorf("%+v: %+v, not %d %d", c, a, id, e)
		}
		want := s
		want.Accounts = other.List()
		if got := x.State(); !sameState(got, want) {
			t.Errorf("%+v: %+v, not %+v", c, got, want)
		}
	}
	for _, name := range names {
		for _, parent := range names {
			asked(api.Cmd{Kind: 7, Name: name, Parent: parent}, func(t *tree.Tree) (int, api.Errno) { return 0, t.Move(name, parent) })
			for _, shares := range []int{0, 1, 4096, 4097} {
				asked(api.Cmd{Kind: 5, Name: name, Parent: parent, Shares: shares}, func(t *tree.Tree) (int, api.Errno) { return t.Add(name, parent, shares) })
			}
		}
		for _, shares := range []int{0, 1, 2, 4096, 4097, most} {
			asked(api.Cmd{Kind: 6, Name: name, Shares: shares}, func(t *tree.Tree) (int, api.Errno) { return 0, t.Shares(name, shares) })
		}
		asked(api.Cmd{Kind: 8, Name: name}, func(t *tree.Tree) (int, api.Errno) { return 0, t.Close(name) })
	}
}

// right is a command of each kind that is not refused in the state of edges.
func right() []api.Cmd {
	return []api.Cmd{
		{Kind: 1, Name: "a", Nodes: 1, Limit: 1}, {Kind: 2, Job: 7}, {Kind: 3, Job: 3}, {Kind: 4, Ticks: 1}, {Kind: 5, Name: "d", Parent: "a", Shares: 1},
		{Kind: 6, Name: "a", Shares: 2}, {Kind: 7, Name: "a", Parent: "root"}, {Kind: 8, Name: "a"}, {Kind: 9, Job: 0}, {Kind: 10}, {Kind: 11, Name: "b"}, {Kind: 12}, {Kind: 13},
	}
}

// ErrVerbCmd is told just where verbs.Check tells it, whatever else is wrong.
func TestP184VerbCmd(t *testing.T) {
	told := 0
	for _, c := range right() {
		if a := done(t, loaded(t, edges()), c); a.Code != 0 {
			t.Errorf("%+v: %d", c, a.Code)
		}
		x := loaded(t, edges())
		for field := range 8 {
			for _, n := range []int{-1, 0, 1, 99, most, least} {
				for _, text := range []string{"", "root", "nobody", "a b", strings.Repeat("x", 33)} {
					other := c
					numbers := []*int{&other.Shares, &other.Nodes, &other.Limit, &other.Job, &other.Ticks, &other.Kind}
					switch field {
					case 6:
						other.Name = text
					case 7:
						other.Parent = text
					default:
						*numbers[field] = n
					}
					if verbs.Check(other) != 0 {
						refuses(t, x, other, 84)
						told++
					} else if a := loaded(t, edges()).Do(other); a.Code == 84 {
						t.Errorf("%+v is refused", other)
					}
				}
			}
		}
	}
	for _, kind := range []int{0, 14, -1, 99, 256 + 4, most, least} {
		refuses(t, loaded(t, edges()), api.Cmd{Kind: kind}, 84)
		refuses(t, loaded(t, edges()), api.Cmd{Kind: kind, Ticks: 1}, 84)
	}
	if told < 500 {
		t.Error(told)
	}
}

func TestP184Job(t *testing.T) {
	s := edges()
	x := loaded(t, s)
	for n, j := range s.Jobs {
		if a := done(t, x, api.Cmd{Kind: 9, Job: n}); !sameAnswer(a, api.Answer{Job: j}) {
			t.Errorf("%+v, not %+v", a, j)
		}
	}
	firstTold(t, s, api.Cmd{Kind: 9, Job: 8}, []spoil{{84, alien}, {182, func(_ *api.State, c *api.Cmd) { c.Job = 9 }}})
}

func TestP184Queue(t *testing.T) {
	x := begun(t, fair(), "account a root 1", "account b root 1", "submit a 4 9", "tick 1", "submit a 1 5", "submit b 3 5", "tick 2", "submit b 4 1")
	s := x.State()
	factors := share.Factors(s.Config, s.Accounts)
	of := func(account int) int {
		high, low := bits.Mul64(1000, factors[account])
		return int(high<<1 | low>>63)
	}
	if of(1) == of(2) || of(1) < 500 {
		t.Fatal(of(1), of(2))
	}
	// Of age, share and size. Who was ahead as the last pass came holds.
	want := api.Answer{Holder: 2, Shadow: 10, Ranks: []api.Rank{{Job: 2, Priority: 2*2 + of(2) + 3*3}, {Job: 3, Priority: of(2) + 3*4}, {Job: 1, Priority: 2*2 + of(1) + 3}}}
	if a := done(t, x, cmd(t, "queue")); !sameAnswer(a, want) {
		t.Errorf("%+v, not %+v", a, want)
	}
	refuses(t, x, api.Cmd{Kind: 10, Job: 1}, 84)
}

// Where nobody holds, where the holder would fit now, and where it waits: for one that runs, or for several.
func TestP184Shadow(t *testing.T) {
	x := begun(t, example(), "account a root 1")
	says(t, x, "queue", "holder -1 0")
	does(t, x, "submit a 1 3", "submit a 1 5", "submit a 1 4", "tick 1", "submit a 4 1")
	says(t, x, "queue", "holder -1 0", "3 0")
	does(t, x, "tick 1")
	says(t, x, "queue", "holder 3 6", "3 1")
	does(t, x, "cancel 1")
	says(t, x, "queue", "holder 3 5", "3 1")
	does(t, x, "complete 2")
	says(t, x, "queue", "holder 3 4", "3 1")
	does(t, x, "complete 0")
	says(t, x, "queue", "holder 3 0", "3 1")
	does(t, x, "tick 1")
	says(t, x, "queue", "holder -1 0")
	says(t, x, "job 3", "job 1 4 1 1 running 3 0 0 1 2 3")

	// It needs less than all: the second one that ends is enough.
	y := begun(t, example(), "account a root 1", "submit a 1 9", "submit a 2 7", "submit a 1 8", "submit a 3 5", "tick 1")
	says(t, y, "queue", "holder 3 9", "3 1")
	does(t, y, "tick 7")
	says(t, y, "queue", "holder 3 9", "3 8")
	says(t, y, "tick 1", "ok", "tick 9", "end 2 9 killed", "pass 9 3", "start 3 9 1 2 3")
}

func TestP184Usage(t *testing.T) {
	x := begun(t, fair(), "account a root 1", "account b a 1", "account c b 3", "account d root 1",
		"submit a 1 9", "submit b 1 9", "submit c 1 3", "submit c 1 9", "tick 5", "cancel 3")
	// They were started at 1; job 2 was killed at 4.
	for name, want := range map[string]int{"a": 4 + 4 + 3 + 4, "b": 4 + 3 + 4, "c": 3 + 4, "d": 0, "root": 15} {
		s := x.State()
		n := map[string]int{"root": 0, "a": 1, "b": 2, "c": 3, "d": 4}[name]
		answer := api.Answer{Raw: want, Usage: uint64(want) * q, Factor: share.Factors(s.Config, s.Accounts)[n]}
		if a := done(t, x, cmd(t, "usage "+name)); !sameAnswer(a, answer) {
			t.Errorf("%s: %+v, not %+v", name, a, answer)
		}
	}
	// At 10 all is halved; raw usage is not. Two nodes have run for five ticks more.
	does(t, x, "tick 5")
	for name, want := range map[string]int{"a": 9 + 9 + 3 + 4, "b": 9 + 3 + 4, "c": 3 + 4, "d": 0, "root": 25} {
		if a := done(t, x, cmd(t, "usage "+name)); a.Raw != want || a.Usage != uint64(want)*q/2 {
			t.Error(name, a, want)
		}
	}
	// Who moves takes along what is below it.
	does(t, x, "move b d")
	for name, want := range map[string]int{"a": 9, "b": 16, "d": 16, "root": 25} {
		if a := done(t, x, cmd(t, "usage "+name)); a.Raw != want {
			t.Error(name, a, want)
		}
	}
	says(t, x, "usage nobody", "error 181")
	refuses(t, x, api.Cmd{Kind: 11, Name: "nobody", Job: 1}, 84)
	refuses(t, x, api.Cmd{Kind: 11}, 84)
}

// much has 34 jobs of all nodes and the greatest limit behind each other, half of them b's, which stands below a.
func much() api.State {
	s := api.State{Config: greatest(), Now: 1 << 26, Holder: -1}
	s.Accounts = []api.Account{account("root", -1), account("a", 0), account("b", 1), account("c", 0)}
	for n := range 34 {
		start := 1 + n<<20
		s.Jobs = append(s.Jobs, api.Job{Account: 1 + n%2, Nodes: 256, Limit: 1 << 20, State: 4, Start: start, End: start + 1<<20, Set: numbers(0, 256)})
	}
	return s
}

func TestP184UsageOfTheMost(t *testing.T) {
	for _, x := range []struct{ a, b, sum uint64 }{
		{math.MaxUint64, 0, math.MaxUint64}, {math.MaxUint64, 1, math.MaxUint64}, {math.MaxUint64, math.MaxUint64, math.MaxUint64},
		{math.MaxUint64 - 1, 1, math.MaxUint64}, {math.MaxUint64 - 2, 1, math.MaxUint64 - 1}, {1 << 63, 1 << 63, math.MaxUint64}, {1 << 63, 1<<63 - 1, math.MaxUint64}, {1 << 62, 1 << 63, 3 << 62},
	} {
		s := much()
		s.Accounts[1].Usage, s.Accounts[2].Usage = x.a, x.b
		core := loaded(t, s)
		for name, want := range map[string]uint64{"root": x.sum, "a": x.sum, "b": x.b, "c": 0} {
			if a := done(t, core, cmd(t, "usage "+name)); a.Usage != want {
				t.Errorf("%s: %d, not %d", name, a.Usage, want)
			}
		}
		if a := done(t, core, cmd(t, "usage root")); a.Raw != 34<<28 {
			t.Error(a.Raw)
		}
		// What does not fit stays at the greatest number.
		does(t, core, "submit b 256 9", "tick 3")
		for n, had := range []uint64{0, x.a, x.b, 0} {
			want := had
			if n == 2 {
				want += min(512*q, math.MaxUint64-had)
			}
			if got := core.State().Accounts[n].Usage; got != want {
				t.Errorf("%d: %d, not %d", n, got, want)
			}
		}
	}
}

func TestP184Nodes(t *testing.T) {
	x := begun(t, example(), "account a root 1")
	says(t, x, "nodes", "free 4")
	does(t, x, "submit a 3 5", "submit a 1 2")
	says(t, x, "nodes", "free 4")
	does(t, x, "tick 1")
	says(t, x, "nodes", "free 0")
	does(t, x, "tick 2")
	says(t, x, "nodes", "free 1")
	does(t, x, "complete 0")
	says(t, x, "nodes", "free 4")
	refuses(t, x, api.Cmd{Kind: 12, Nodes: 1}, 84)
}

func TestP184Config(t *testing.T) {
	for _, c := range configs() {
		x := begun(t, c)
		want := api.Answer{Config: c, Bound: (c.Fair+c.Size*c.Nodes)/c.Age + 1 + c.Queue*c.Limit}
		if a := done(t, x, cmd(t, "config")); !sameAnswer(a, want) {
			t.Errorf("%+v, not %+v", a, want)
		}
		refuses(t, x, api.Cmd{Kind: 13, Limit: 1}, 84)
	}
}

// Holder is told by queue alone; elsewhere it is 0, whoever holds.
func TestP184HolderByQueueAlone(t *testing.T) {
	for _, holder := range []int{7, -1} {
		for _, c := range right() {
			s := edges()
			s.Holder = holder
			a := done(t, loaded(t, s), c)
			if c.Kind == 10 && a.Holder != holder || c.Kind != 10 && a.Holder != 0 {
				t.Errorf("%+v: %+v", c, a)
			}
		}
	}
}

package judge

import (
	"maps"
	"math"
	"slices"
	"strconv"
	"strings"
	"testing"

	"backfill/api"
	"backfill/desk"
)

// count is P21.4's own: it knows nothing of passes or plans, and asks just for what is promised.
type count struct {
	c    api.Config
	now  int
	jobs map[int]counted
	who  map[int]int // which job has a node
	// Who holds, and by when it has to be started.
	holder, by int
}

type counted struct {
	nodes, limit, start int
	started, ended      bool
}

func countNew(c api.Config) *count {
	return &count{c: c, jobs: map[int]counted{}, who: map[int]int{}, holder: -1}
}

// unsound is what is wrong with a trace, as far as it is told; empty, if nothing is.
func unsound(c api.Config, l []api.Event) string {
	n := countNew(c)
	for _, e := range l {
		if s := n.hear(e); s != "" {
			return s
		}
	}
	return ""
}

func (n *count) hear(e api.Event) string {
	if s := n.step(e); s != "" {
		return s
	}
	if n.holder >= 0 && n.sure(n.jobs[n.holder].nodes) > n.by {
		return "the shadow has grown"
	}
	return ""
}

func (n *count) step(e api.Event) string {
	j, there := n.jobs[e.Job]
	switch e.Kind {
	case 1:
		if there {
			return "submitted twice"
		}
		n.jobs[e.Job] = counted{nodes: e.Nodes, limit: e.Limit}
	case 2:
		return n.begin(e, j, there)
	case 3:
		return n.end(e, j, there)
	case 4:
		if !there || j.started || j.ended {
			return "who holds is not pending"
		}
		n.holder, n.by = e.Job, n.sure(j.nodes)
	case 6:
		if n.holder >= 0 && n.now >= n.by {
			return "who holds is late"
		}
		n.now++
	}
	return ""
}

func (n *count) begin(e api.Event, j counted, there bool) string {
	if !there || j.started || j.ended || len(e.List) != j.nodes {
		return "started twice, or ahead of its submission, or on too few nodes"
	}
	for _, node := range e.List {
		if _, taken := n.who[node]; taken || node >= n.c.Nodes {
			return "nodes of two"
		}
		n.who[node] = e.Job
	}
	j.started, j.start = true, n.now
	n.jobs[e.Job] = j
	n.release(e.Job)
	return ""
}

func (n *count) end(e api.Event, j counted, there bool) string {
	if !there || j.ended || j.started == (e.Nodes == 6) {
		return "ended twice, or as what it was not"
	}
	if ran := n.now - j.start; j.started && (ran > j.limit || (ran == j.limit) != (e.Nodes == 4)) {
		return "it has not run its Limit, or has"
	}
	j.ended = true
	n.jobs[e.Job] = j
	maps.DeleteFunc(n.who, func(_, job int) bool { return job == e.Job })
	n.release(e.Job)
	return ""
}

func (n *count) release(job int) {
	if n.holder == job {
		n.holder = -1
	}
}

// sure is the first time at which so many nodes are free, if all that run end at their limits. (Where a job asks for more than there are, there is none.)
func (n *count) sure(many int) int {
	free := n.c.Nodes - len(n.who)
	var ends []int // a node each
	for _, job := range n.who {
		ends = append(ends, n.jobs[job].start+n.jobs[job].limit)
	}
	slices.Sort(ends)
	if many <= free {
		return n.now
	}
	if many > n.c.Nodes {
		return math.MaxInt
	}
	return ends[many-free-1]
}

// The count finds what it is there for.
func TestCount(t *testing.T) {
	before := "submit 0 0 3 2, submit 1 0 4 2, tick 1, pass 1 0 1, start 0 1 0 1 2, pin 1 1, "
	for _, x := range []struct{ trace, want string }{
		{before + "tick 2, tick 3, end 0 3 killed, start 1 3 0 1 2 3, tick 4, tick 5, end 1 5 killed", ""},
		{before + "end 1 1 dropped, tick 2, tick 3, end 0 3 killed, tick 4, tick 5", ""},
		{before + "end 0 1 stopped, tick 2, tick 3", ""},
		{"submit 0 0 1 1, submit 0 0 1 1", "submitted twice"},
		{before + "start 0 1 3", "started twice, or ahead of its submission, or on too few nodes"},
		{before + "start 2 1 3", "started twice, or ahead of its submission, or on too few nodes"},
		{before + "start 1 1 3", "started twice, or ahead of its submission, or on too few nodes"},
		{before + "start 1 1 0 1 2 3", "nodes of two"},
		{"submit 0 0 1 1, start 0 0 4", "nodes of two"},
		{before + "tick 2, end 0 2 killed", "it has not run its Limit, or has"},
		{before + "tick 2, tick 3, end 0 3 completed", "it has not run its Limit, or has"},
		{before + "end 0 1 dropped", "ended twice, or as what it was not"},
		{before + "end 1 1 stopped", "ended twice, or as what it was not"},
		{before + "end 1 1 dropped, end 1 1 dropped", "ended twice, or as what it was not"},
		{before + "pin 0 1", "who holds is not pending"},
		{before + "tick 2, tick 3, end 0 3 killed, tick 4", "who holds is late"},
		{before + "submit 2 1 1 3, start 2 1 3", "the shadow has grown"},
	} {
		if got := unsound(example(), read(t, x.trace)); got != x.want {
			t.Errorf("%s: %q, not %q", x.trace, got, x.want)
		}
	}
}

// sound asks P21.4 of a trace, as far as it has no faults, and tells whether it has none.
func sound(t *testing.T, c api.Config, l []api.Event) bool {
	t.Helper()
	first, found, _ := First(c, l)
	if !found {
		first.At = len(l)
	}
	if s := unsound(c, l[:first.At]); s != "" {
		t.Fatalf("%+v, %s: %s, but no fault", c, written(l[:first.At]), s)
	}
	return !found
}

// P21.4: at traces without faults, and at what is ahead of the first fault of others.
func TestP214DrawnTraces(t *testing.T) {
	pins := 0
	for seed := range 1000 {
		d := &dice{uint64(seed)<<32 + 7<<20}
		c := drawnConfig(d)
		l := drawn(d, c, 200, 0)
		if !sound(t, c, l) {
			t.Fatalf("%+v, %s: %v", c, written(l), judged(t, c, l))
		}
		for _, e := range l {
			if e.Kind == 4 {
				pins++
			}
		}
		sound(t, c, drawn(d, c, 100, 30))
	}
	if pins < 1000 {
		t.Error(pins)
	}
}

// All that the count finds has a fault: each event of a trace is changed in small steps.
func TestP214ChangedTraces(t *testing.T) {
	var found, fine int
	for seed := range 300 {
		d := &dice{uint64(seed)<<32 + 8<<20}
		c := drawnConfig(d)
		l := drawn(d, c, 80, 0)
		for at := range l {
			changed := slices.Clone(l)
			changed[at] = near(d, changed[at])
			if isRefused(changed[at]) {
				continue
			}
			if sound(t, c, changed) {
				fine++
			} else if unsound(c, changed) != "" {
				found++
			}
		}
	}
	if found < 1000 || fine < 100 {
		t.Error(found, fine)
	}
}

// drawnLine is a command for a desk of some accounts; it may be refused, or none at all.
func drawnLine(d *dice, c api.Config, s api.State) string {
	number := func(least, most int) string { return strconv.Itoa(number(d, least, most)) }
	name := func() string { return pick(d, s.Accounts).Name }
	switch d.below(16) {
	case 0, 1, 2, 3:
		return "submit " + name() + " " + number(1, c.Nodes) + " " + number(1, c.Limit)
	case 4:
		return "submit " + name() + " 1 " + number(1, c.Limit)
	case 5:
		return "complete " + number(len(s.Jobs)-8, len(s.Jobs))
	case 6:
		return "cancel " + number(len(s.Jobs)-8, len(s.Jobs))
	case 7, 8, 9:
		return "tick 1"
	case 10:
		return "tick " + number(1, 12)
	case 11:
		return "account n" + strconv.Itoa(len(s.Accounts)) + " " + name() + " " + number(1, 9)
	case 12:
		return "shares " + name() + " " + number(1, 99)
	case 13:
		return "move " + name() + " " + name()
	case 14:
		return pick(d, []string{"queue", "nodes", "config", "usage " + name(), "job 0", "# tick 1", "", "tock 1", "tick", " tick 1"})
	}
	if d.oneIn(6) {
		return "close " + name()
	}
	return "tick 1"
}

// deskOf has done a drawn script.
func deskOf(t *testing.T, d *dice, c api.Config, many int) *desk.Desk {
	t.Helper()
	x, e := desk.New(c)
	if e != 0 {
		t.Fatal(e)
	}
	for range 3 {
		x.Line("account n" + strconv.Itoa(len(x.State().Accounts)) + " root " + strconv.Itoa(d.from(1, 5)))
	}
	for range many {
		x.Line(drawnLine(d, c, x.State()))
	}
	return x
}

// P21.2, and of the same traces P21.4.
func TestP212DrawnScripts(t *testing.T) {
	var kinds [8]int
	for seed := range 400 {
		d := &dice{uint64(seed)<<32 + 9<<20}
		c := drawnConfig(d)
		l := deskOf(t, d, c, d.from(1, 150)).Trace()
		if faults := agrees(t, c, l); len(faults) > 0 {
			t.Fatalf("%+v, %s: %v", c, written(l), faults)
		}
		sound(t, c, l)
		for _, e := range l {
			kinds[e.Kind]++
		}
	}
	for kind, many := range kinds {
		if kind > 0 && many < 300 {
			t.Errorf("of kind %d there are %d alone", kind, many)
		}
	}
}

// Of the greatest machine and queue.
func TestP212Great(t *testing.T) {
	c := api.Config{Nodes: 256, Queue: 128, Limit: 40, Age: 1, Fair: 1000, Size: 2, Period: 10, Half: 30}
	x, e := desk.New(c)
	if e != 0 {
		t.Fatal(e)
	}
	x.Run("account a root 3\naccount b root 1\naccount c a 1\n")
	d := &dice{77}
	for range 4200 {
		x.Line("submit " + pick(d, []string{"a", "b", "c"}) + " " + strconv.Itoa(d.from(1, pick(d, []int{4, 40, 256}))) + " " + strconv.Itoa(d.from(1, 40)))
		if d.oneIn(3) {
			x.Line(pick(d, []string{"tick 1", "tick 4", "tick 13"}))
		}
		if d.oneIn(9) {
			x.Line(pick(d, []string{"cancel ", "complete "}) + strconv.Itoa(d.below(len(x.State().Jobs)+1)))
		}
	}
	l := x.Trace()
	if faults := judged(t, c, l); len(faults) > 0 || len(l) < 5000 {
		t.Error(len(l), faults)
	}
	if s := unsound(c, l); s != "" {
		t.Error(s)
	}
}

// As far as a trace is kept: its last events are those of a tick that are not all there.
func TestP212Full(t *testing.T) {
	c := api.Config{Nodes: 4, Queue: 128, Limit: 1 << 20, Age: 1, Period: 100, Half: 100}
	x, _ := desk.New(c)
	x.Run("account a root 1\nsubmit a 4 1048576\n" + strings.Repeat("submit a 1 9\n", 120) + "tick 1\n")
	for range 40 {
		x.Line("tick 256")
	}
	l := x.Trace()
	if many := size(l); many > 1<<20 || many < 1<<20-125 || len(l) < 10000 {
		t.Fatal(many, len(l))
	}
	if faults := judged(t, c, l); len(faults) > 0 {
		t.Error(faults)
	}
	// One that is not the desk's is found at its very end.
	l = l[:len(l)-10]
	l[len(l)-1].At++
	if faults := judged(t, c, l); len(faults) == 0 || faults[0].At != len(l)-1 {
		t.Error(faults)
	}
}

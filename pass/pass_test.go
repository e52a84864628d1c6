package pass

import (
	"math"
	"reflect"
	"slices"
	"sync"
	"testing"

	"backfill/api"
	"backfill/profile"
)

// The tests hold the package against the chapter's words, taken plainly, with the limits written as numbers.

const (
	lastNow   = 1 << 41
	lastEnd   = 1 << 42
	mostNodes = 256
	mostLimit = 1 << 20
)

// mixed goes through numbers without an order, always the same ones.
func mixed(seed uint64) uint64 {
	seed += 0x9e3779b97f4a7c15
	seed = (seed ^ seed>>30) * 0xbf58476d1ce4e5b9
	seed = (seed ^ seed>>27) * 0x94d049bb133111eb
	return seed ^ seed>>31
}

type dice struct{ seed uint64 }

func (d *dice) word() uint64 {
	d.seed++
	return mixed(d.seed)
}

func (d *dice) below(n int) int { return int(d.word() % uint64(n)) }

func (d *dice) from(least, most int) int { return least + d.below(most-least+1) }

func pick[T any](d *dice, l []T) T { return l[d.below(len(l))] }

func shuffled[T any](d *dice, l []T) []T {
	out := slices.Clone(l)
	for i := range out {
		k := d.from(i, len(out)-1)
		out[i], out[k] = out[k], out[i]
	}
	return out
}

// asked is what a pass is given.
type asked struct {
	now, free int
	wants     []api.Want
	holder    int
	runs      []api.Run
}

func (a asked) pass() (api.Plan, api.Errno) { return Pass(a.now, a.free, a.wants, a.holder, a.runs) }

// copied shares no memory with the other one, so that a test may change it.
func (a asked) copied() asked {
	a.wants, a.runs = slices.Clone(a.wants), slices.Clone(a.runs)
	return a
}

func (a asked) all() int {
	many := a.free
	for _, r := range a.runs {
		many += r.Nodes
	}
	return many
}

func (a asked) want(job int) api.Want { return a.wants[a.rank(job)] }

func (a asked) rank(job int) int {
	return slices.IndexFunc(a.wants, func(w api.Want) bool { return w.Job == job })
}

// wants are written as job, nodes, limit; runs as nodes, end.
func wants(numbers ...int) []api.Want {
	var l []api.Want
	for i := 0; i < len(numbers); i += 3 {
		l = append(l, api.Want{Job: numbers[i], Nodes: numbers[i+1], Limit: numbers[i+2]})
	}
	return l
}

func runs(numbers ...int) []api.Run {
	var l []api.Run
	for i := 0; i < len(numbers); i += 2 {
		l = append(l, api.Run{Nodes: numbers[i], End: numbers[i+1]})
	}
	return l
}

func plan(holder, shadow, extra int, starts ...int) api.Plan {
	return api.Plan{Starts: starts, Holder: holder, Shadow: shadow, Extra: extra}
}

// alike tells whether two plans are the same, where no list and an empty one are.
func alike(a, b api.Plan) bool {
	return slices.Equal(a.Starts, b.Starts) && a.Holder == b.Holder && a.Shadow == b.Shadow && a.Extra == b.Extra
}

// isRight is P15.1.
func (a asked) isRight() bool {
	if a.now < 0 || a.now > lastNow || a.free < 0 || a.free > mostNodes {
		return false
	}
	for _, r := range a.runs {
		if r.Nodes < 1 || r.Nodes > mostNodes || r.End <= a.now || r.End > lastEnd {
			return false
		}
	}
	holds := a.holder == -1
	for i, w := range a.wants {
		if w.Job < 0 || w.Nodes < 1 || w.Nodes > mostNodes || w.Nodes > a.all() || w.Limit < 1 || w.Limit > mostLimit {
			return false
		}
		if a.rank(w.Job) != i {
			return false
		}
		holds = holds || w.Job == a.holder
	}
	return holds
}

// shadowOf goes through all times that may be one, and takes the least.
func shadowOf(now, free int, runs []api.Run, need int) (shadow, extra int) {
	shadow = math.MaxInt
	for _, at := range append([]api.Run{{End: now}}, runs...) {
		many := free
		for _, r := range runs {
			if r.End <= at.End {
				many += r.Nodes
			}
		}
		if many >= need && at.End < shadow {
			shadow, extra = at.End, many-need
		}
	}
	return shadow, extra
}

// steps is P15.2.
func (a asked) steps() (api.Plan, api.Errno) {
	if !a.isRight() {
		return api.Plan{}, 150
	}
	p := plan(a.holder, 0, 0)
	free, runs := a.free, slices.Clone(a.runs)
	fits := func(w api.Want) bool { return w.Nodes <= free }
	start := func(w api.Want) {
		p.Starts = append(p.Starts, w.Job)
		free -= w.Nodes
		runs = append(runs, api.Run{Nodes: w.Nodes, End: a.now + w.Limit})
	}
	if p.Holder != -1 && fits(a.want(p.Holder)) {
		start(a.want(p.Holder))
		p.Holder = -1
	}
	for _, w := range a.wants {
		switch {
		case p.Holder != -1 || slices.Contains(p.Starts, w.Job):
		case fits(w):
			start(w)
		default:
			p.Holder = w.Job
		}
	}
	if p.Holder == -1 {
		return p, 0
	}
	p.Shadow, p.Extra = shadowOf(a.now, free, runs, a.want(p.Holder).Nodes)
	left := p.Extra
	for _, w := range a.wants {
		switch {
		case w.Job == p.Holder || slices.Contains(p.Starts, w.Job):
		case fits(w) && a.now+w.Limit <= p.Shadow:
			start(w)
		case fits(w) && w.Nodes <= left:
			start(w)
			left -= w.Nodes
		}
	}
	return p, 0
}

// checked holds a pass against the steps, and a plan against P15.3 and P15.5.
func checked(t *testing.T, a asked) api.Plan {
	t.Helper()
	handed := a.copied()
	p, e := a.pass()
	if !slices.Equal(a.wants, handed.wants) || !slices.Equal(a.runs, handed.runs) {
		t.Fatalf("%+v is %+v now", handed, a)
	}
	if want, code := a.steps(); !alike(p, want) || e != code {
		t.Fatalf("%+v: %+v %d, not %+v %d", a, p, e, want, code)
	}
	if e == api.OK {
		isWhole(t, a, p)
		isSoon(t, a, p)
	}
	return p
}

// refused holds a pass against P15.1, where it says no.
func refused(t *testing.T, a asked) {
	t.Helper()
	if p, e := a.pass(); e != 150 || !alike(p, api.Plan{}) {
		t.Errorf("%+v: %+v %d", a, p, e)
	}
	if a.isRight() {
		t.Errorf("%+v is right", a)
	}
}

// tells holds a pass against a plan that is written out.
func tells(t *testing.T, a asked, want api.Plan) {
	t.Helper()
	if p := checked(t, a); !alike(p, want) {
		t.Errorf("%+v: %+v, not %+v", a, p, want)
	}
	if _, e := a.pass(); e != api.OK {
		t.Errorf("%+v: %d", a, e)
	}
}

// isWhole is P15.3.
func isWhole(t *testing.T, a asked, p api.Plan) {
	t.Helper()
	free, left, once := a.free, p.Extra, map[int]int{}
	for _, job := range p.Starts {
		w := a.want(job)
		once[job]++
		if w.Nodes > free || once[job] > 1 || job == p.Holder {
			t.Fatalf("%+v: %+v: %d", a, p, job)
		}
		free -= w.Nodes
		if p.Holder != -1 && isFiller(a, p, job) && a.now+w.Limit > p.Shadow {
			left -= w.Nodes
		}
	}
	if left < 0 {
		t.Fatalf("%+v: %+v: %d too many of the extra nodes", a, p, -left)
	}
	if p.Holder == -1 {
		if len(p.Starts) != len(a.wants) || p.Shadow != 0 || p.Extra != 0 {
			t.Fatalf("%+v: %+v", a, p)
		}
		return
	}
	for _, w := range a.wants {
		inTime := a.now+w.Limit <= p.Shadow
		switch {
		case w.Job == p.Holder:
			if w.Nodes <= free {
				t.Fatalf("%+v: %+v: the holder fits", a, p)
			}
		case once[w.Job] == 0 && w.Nodes <= free && (inTime || w.Nodes <= left):
			t.Fatalf("%+v: %+v: %d could be started", a, p, w.Job)
		}
	}
}

// isFiller tells whether one that was started fills: all do behind one that held before; else those that rank behind the one that holds now, but the one that held.
func isFiller(a asked, p api.Plan, job int) bool {
	return p.Holder == a.holder || job != a.holder && a.rank(job) > a.rank(p.Holder)
}

// isSoon is P15.5.
func isSoon(t *testing.T, a asked, p api.Plan) {
	t.Helper()
	if p.Holder == -1 {
		return
	}
	most := 0
	for _, r := range a.runs {
		most = max(most, r.End)
	}
	for _, job := range p.Starts {
		most = max(most, a.now+a.want(job).Limit)
	}
	if p.Shadow > most || p.Shadow <= a.now || p.Extra < 0 {
		t.Fatalf("%+v: %+v, and the last one ends at %d", a, p, most)
	}
}

func TestChapterExamples(t *testing.T) {
	tells(t, asked{1, 4, wants(0, 3, 5, 1, 3, 5, 2, 1, 5, 3, 1, 6), -1, nil}, plan(1, 6, 1, 0, 2))
	tells(t, asked{1, 4, wants(0, 3, 5, 1, 3, 5, 2, 1, 9), -1, nil}, plan(1, 6, 1, 0, 2))
	tells(t, asked{2, 0, wants(1, 3, 5, 3, 1, 6), 1, runs(3, 6, 1, 6)}, plan(1, 6, 1))
	tells(t, asked{6, 4, wants(1, 3, 5, 3, 1, 6), 1, nil}, plan(-1, 0, 0, 1, 3))
	tells(t, asked{3, 2, wants(7, 1, 9, 8, 1, 9, 5, 4, 1), 5, runs(2, 8)}, plan(5, 8, 0))
	tells(t, asked{3, 2, wants(7, 1, 5, 5, 4, 1), 5, runs(2, 8)}, plan(5, 8, 0, 7))
	tells(t, asked{3, 2, wants(5, 2, 1, 7, 2, 1), 7, runs(1, 9)}, plan(5, 4, 0, 7))
	refused(t, asked{1, 2, wants(0, 3, 1), -1, nil})
	refused(t, asked{1, 2, nil, 0, nil})
	refused(t, asked{1, 2, wants(0, 1, 1, 0, 1, 1), -1, nil})
}

func TestP151Number(t *testing.T) {
	if api.ErrPassArg != 150 || api.OK != 0 {
		t.Error(api.ErrPassArg, api.OK)
	}
	_, e := Pass(-1, 0, nil, -1, nil)
	if e != api.ErrPassArg {
		t.Error(e)
	}
}

// Beside an error all is zero, Holder too, though some could have been started and somebody could have held.
func TestP151NothingBeside(t *testing.T) {
	for _, a := range []asked{
		{1, 2, wants(5, 1, 1, 6, 3, 1), -1, nil},
		{1, 2, wants(5, 1, 1, 6, 1, 1), 7, nil},
		{1, 2, wants(5, 2, 1, 6, 2, 1, 7, 1, 0), 5, runs(1, 4)},
		{1, 2, wants(5, 2, 1, 6, 2, 1, 5, 1, 1), 6, runs(1, 4)},
		{1, 2, wants(5, 2, 1, 6, 3, 1), 6, runs(1, 4, 1, 1)},
	} {
		p, e := a.pass()
		if e != api.ErrPassArg || len(p.Starts) != 0 || p.Holder != 0 || p.Shadow != 0 || p.Extra != 0 {
			t.Errorf("%+v: %+v %d", a, p, e)
		}
	}
}

// usual is an ordinary pass, with three wants and three runs, in which each number may be made another.
func usual() asked {
	return asked{10, 3, wants(4, 5, 8, 2, 2, 3, 9, 1, 1), -1, runs(2, 12, 1, 15, 4, 14)}
}

func TestP151Now(t *testing.T) {
	for _, now := range []int{0, 1, 9, 1<<40 - 1, 1 << 40, 1<<40 + 1, lastNow - 1, lastNow} {
		checked(t, asked{now, 3, nil, -1, nil})
		tells(t, asked{now, 3, wants(0, 2, 4, 1, 2, 1), -1, runs(1, now+1)}, plan(1, now+1, 0, 0))
		tells(t, asked{now, 0, wants(7, 1, mostLimit), 7, runs(1, lastEnd)}, plan(7, lastEnd, 0))
	}
	for _, now := range []int{-1, -2, math.MinInt, lastNow + 1, lastEnd, 1 << 62, math.MaxInt} {
		refused(t, asked{now, 3, nil, -1, nil})
		refused(t, asked{now, 3, wants(0, 1, 1), -1, nil})
		refused(t, asked{now, 3, wants(0, 1, 1), 0, runs(1, lastEnd)})
		refused(t, asked{now, 3, nil, -1, runs(1, now+1)})
	}
}

func TestP151Free(t *testing.T) {
	for _, free := range []int{0, 1, 2, 255, mostNodes} {
		checked(t, asked{1, free, nil, -1, nil})
		checked(t, asked{1, free, wants(0, 3, 1), -1, runs(3, 9)})
	}
	tells(t, asked{1, mostNodes, wants(0, mostNodes, 1), -1, nil}, plan(-1, 0, 0, 0))
	for _, free := range []int{-1, -256, math.MinInt, mostNodes + 1, 512, math.MaxInt} {
		refused(t, asked{1, free, nil, -1, nil})
		refused(t, asked{1, free, wants(0, 1, 1), -1, nil})
		refused(t, asked{1, free, wants(0, 1, 1), 0, runs(256, 9, 256, 9)})
	}
}

func TestP151Runs(t *testing.T) {
	for place := range 3 {
		with := func(nodes, end int) asked {
			a := usual()
			a.runs[place] = api.Run{Nodes: nodes, End: end}
			return a
		}
		for _, nodes := range []int{2, 3, 255, mostNodes} {
			for _, end := range []int{11, 12, 1 << 41, lastEnd - 1, lastEnd} {
				checked(t, with(nodes, end))
				if _, e := with(nodes, end).pass(); e != api.OK {
					t.Error(nodes, end, e)
				}
			}
		}
		for _, nodes := range []int{0, -1, math.MinInt, mostNodes + 1, math.MaxInt} {
			refused(t, with(nodes, 12))
		}
		for _, end := range []int{10, 9, 0, -1, math.MinInt, lastEnd + 1, math.MaxInt} {
			refused(t, with(2, end))
		}
	}
	checked(t, asked{1, 0, wants(0, 1, 1), -1, runs(1, 2)})
	refused(t, asked{1, 0, nil, -1, runs(0, 2)})
	refused(t, asked{0, 0, nil, -1, runs(1, 0)})
	refused(t, asked{lastNow, 0, nil, -1, runs(1, lastNow)})
	refused(t, asked{lastNow, 0, nil, -1, runs(1, lastEnd+1)})
}

// Of each want Job, Nodes and Limit, wherever it stands, and whether somebody holds or not.
func TestP151Wants(t *testing.T) {
	for place := range 3 {
		for _, holder := range []int{-1, usual().wants[(place+1)%3].Job} {
			with := func(job, nodes, limit int) asked {
				a := usual()
				a.holder = holder
				a.wants[place] = api.Want{Job: job, Nodes: nodes, Limit: limit}
				return a
			}
			for _, job := range []int{0, 1, 4096, math.MaxInt} {
				for _, nodes := range []int{1, 3, 4, 9, 10} {
					for _, limit := range []int{1, 2, mostLimit - 1, mostLimit} {
						checked(t, with(job, nodes, limit))
						if _, e := with(job, nodes, limit).pass(); e != api.OK {
							t.Error(job, nodes, limit, e)
						}
					}
				}
			}
			for _, job := range []int{-1, -2, math.MinInt} {
				refused(t, with(job, 1, 1))
			}
			for _, nodes := range []int{0, -1, math.MinInt, 11, mostNodes + 1, math.MaxInt} {
				refused(t, with(0, nodes, 1))
			}
			for _, limit := range []int{0, -1, math.MinInt, mostLimit + 1, math.MaxInt} {
				refused(t, with(0, 1, limit))
			}
		}
	}
}

// Nodes of a want are at most all that there are, free or not, and at most those of a machine, though there be more.
func TestP151NodesInAll(t *testing.T) {
	for _, x := range []struct {
		free int
		runs []api.Run
	}{
		{0, nil}, {1, nil}, {5, nil}, {255, nil}, {mostNodes, nil},
		{0, runs(1, 9)}, {0, runs(2, 9, 3, 8)}, {4, runs(2, 9, 3, 8)}, {1, runs(255, 9)}, {255, runs(1, 9)},
	} {
		all := asked{free: x.free, runs: x.runs}.all()
		for _, holder := range []int{-1, 3} {
			refused(t, asked{1, x.free, wants(3, all+1, 1), holder, x.runs})
			if all > 0 {
				checked(t, asked{1, x.free, wants(3, all, 1), holder, x.runs})
				checked(t, asked{1, x.free, wants(3, all, 1, 4, all, 1), holder, x.runs})
				refused(t, asked{1, x.free, wants(3, all, 1, 4, all+1, 1), holder, x.runs})
				refused(t, asked{1, x.free, wants(4, all+1, 1, 3, all, 1), holder, x.runs})
			}
		}
	}
	for _, many := range [][]api.Run{runs(1, 9), runs(256, 9), runs(200, 9, 200, 8, 200, 7)} {
		checked(t, asked{1, mostNodes, wants(3, mostNodes, 1), -1, many})
		refused(t, asked{1, mostNodes, wants(3, mostNodes+1, 1), -1, many})
		refused(t, asked{1, mostNodes, wants(3, mostNodes+1, 1), 3, many})
	}
}

func TestP151JobTwice(t *testing.T) {
	for first := range 5 {
		for second := range first {
			a := asked{1, 9, wants(10, 1, 1, 11, 2, 2, 12, 3, 3, 13, 9, 4, 14, 1, 5), -1, nil}
			for _, holder := range []int{-1, a.wants[first].Job, a.wants[second].Job} {
				a.holder = holder
				checked(t, a)
				twice := a.copied()
				twice.wants[first].Job = twice.wants[second].Job
				refused(t, twice)
				twice.wants[first] = twice.wants[second]
				refused(t, twice)
			}
		}
	}
	refused(t, asked{1, 9, wants(math.MaxInt, 1, 1, 0, 1, 1, math.MaxInt, 1, 1), -1, nil})
}

func TestP151Holder(t *testing.T) {
	for _, w := range usual().wants {
		a := usual()
		a.holder = w.Job
		checked(t, a)
		if _, e := a.pass(); e != api.OK {
			t.Error(w, e)
		}
	}
	for _, holder := range []int{-2, -3, math.MinInt, 0, 1, 3, 5, 8, 10, math.MaxInt} {
		a := usual()
		a.holder = holder
		refused(t, a)
		refused(t, asked{1, 2, nil, holder, nil})
		refused(t, asked{1, 2, nil, holder, runs(3, 9)})
	}
	// A place among the wants, or a number of nodes or ticks, is no Job.
	refused(t, asked{1, 9, wants(7, 1, 1, 8, 1, 1), 1, nil})
	checked(t, asked{1, 9, wants(math.MaxInt, 1, 1), math.MaxInt, nil})
	checked(t, asked{1, 9, wants(0, 1, 1), 0, nil})
}

func TestP151TheGreatest(t *testing.T) {
	const count = 20000
	many := make([]api.Run, count)
	for i := range many {
		many[i] = api.Run{Nodes: mostNodes, End: lastEnd}
	}
	greatest := wants(math.MaxInt, mostNodes, mostLimit, math.MaxInt-1, mostNodes, mostLimit, math.MaxInt-2, 1, mostLimit)
	tell := func(a asked, want api.Plan) {
		t.Helper()
		if p, e := a.pass(); !alike(p, want) || e != api.OK {
			t.Error(p, e, "not", want)
		}
	}
	first, second, third := math.MaxInt, math.MaxInt-1, math.MaxInt-2
	tell(asked{lastNow, mostNodes, greatest, -1, many}, plan(second, lastNow+mostLimit, 0, first))
	tell(asked{lastNow, mostNodes, greatest, second, many}, plan(first, lastNow+mostLimit, 0, second))
	tell(asked{lastNow, mostNodes, greatest, third, many}, plan(first, lastNow+mostLimit, 0, third))
	tell(asked{lastNow, mostNodes - 1, greatest, -1, many}, plan(first, lastEnd, count*mostNodes-1, third))
	tell(asked{lastNow, 0, greatest, first, many}, plan(first, lastEnd, (count-1)*mostNodes))
	many[count/2].End = lastNow + 1
	tell(asked{lastNow, mostNodes - 1, greatest, -1, many}, plan(first, lastNow+1, mostNodes-1, third))
	many[count-1].Nodes++
	refused(t, asked{lastNow, mostNodes, greatest, -1, many})
	many[count-1] = api.Run{Nodes: mostNodes, End: lastEnd + 1}
	refused(t, asked{lastNow, mostNodes, greatest, -1, many})
}

func TestP152Nothing(t *testing.T) {
	for _, l := range [][]api.Want{nil, {}, make([]api.Want, 0, 3)} {
		for _, r := range [][]api.Run{nil, {}, make([]api.Run, 0, 3), runs(2, 9)} {
			for _, free := range []int{0, 3} {
				tells(t, asked{1, free, l, -1, r}, plan(-1, 0, 0))
			}
		}
	}
	// Nothing is free: the first one holds, whoever it is.
	tells(t, asked{1, 0, wants(3, 1, 1, 0, 1, 1), -1, runs(1, 9)}, plan(3, 9, 0))
	tells(t, asked{1, 0, wants(3, 1, 1, 0, 1, 1), 0, runs(1, 9)}, plan(0, 9, 0))
	// Nothing runs: all fit, one behind the other, or the first ones do.
	tells(t, asked{1, 2, wants(3, 1, 1, 0, 1, 1), -1, nil}, plan(-1, 0, 0, 3, 0))
	tells(t, asked{1, 2, wants(3, 1, 4, 0, 2, 1), -1, nil}, plan(0, 5, 0, 3))
}

func TestP152HolderFits(t *testing.T) {
	// It is started first of all, wherever it stands, and with just what is free.
	for place := range 3 {
		l := slices.Insert(wants(1, 1, 5, 2, 1, 5), place, api.Want{Job: 0, Nodes: 3, Limit: 2})
		tells(t, asked{4, 5, l, 0, nil}, plan(-1, 0, 0, 0, 1, 2))
		tells(t, asked{4, 4, l, 0, runs(1, 7)}, plan(2, 6, 2, 0, 1))
		tells(t, asked{4, 3, l, 0, runs(1, 7)}, plan(1, 6, 2, 0))
	}
	tells(t, asked{4, 3, wants(0, 3, 2), 0, nil}, plan(-1, 0, 0, 0))
	tells(t, asked{4, 3, wants(0, 3, 2), 0, runs(1, 7)}, plan(-1, 0, 0, 0))
	// Behind it others are started in rank, and who does not fit is pinned, though it ranks ahead of the one that held.
	tells(t, asked{4, 6, wants(1, 2, 5, 2, 2, 5, 0, 3, 2, 3, 1, 1), 0, nil}, plan(2, 6, 2, 0, 1, 3))
	tells(t, asked{4, 6, wants(1, 4, 5, 0, 3, 2, 2, 3, 2), 0, nil}, plan(1, 6, 2, 0, 2))
}

func TestP152HolderDoesNotFit(t *testing.T) {
	// Nobody else is pinned, nor started by its rank alone.
	tells(t, asked{4, 2, wants(1, 1, 9, 2, 2, 9, 0, 3, 2), 0, runs(1, 7)}, plan(0, 7, 0))
	tells(t, asked{4, 2, wants(1, 3, 9, 2, 2, 9, 0, 3, 2), 0, runs(1, 7)}, plan(0, 7, 0))
	tells(t, asked{4, 2, wants(1, 3, 1, 2, 2, 1, 0, 3, 2), 0, runs(1, 7)}, plan(0, 7, 0, 2))
	tells(t, asked{4, 2, wants(0, 3, 2, 1, 3, 1, 2, 2, 1), 0, runs(1, 7)}, plan(0, 7, 0, 2))
	tells(t, asked{4, 2, wants(0, 3, 2), 0, runs(1, 7)}, plan(0, 7, 0))
	// One node is missing, or all of them are.
	tells(t, asked{4, 2, wants(0, 3, 2), 0, runs(1, 7, 1, 6)}, plan(0, 6, 0))
	tells(t, asked{4, 0, wants(0, 3, 2), 0, runs(1, 7, 1, 6, 1, 5, 1, 8)}, plan(0, 7, 0))
}

func TestP152NobodyHolds(t *testing.T) {
	tells(t, asked{4, 6, wants(5, 1, 1, 3, 2, 1, 8, 3, 1), -1, nil}, plan(-1, 0, 0, 5, 3, 8))
	tells(t, asked{4, 6, wants(5, 1, 1, 3, 2, 1, 8, 3, 1), -1, runs(9, 9)}, plan(-1, 0, 0, 5, 3, 8))
	// The first one, one in the middle, the last one does not fit.
	tells(t, asked{4, 6, wants(5, 7, 1, 3, 2, 1, 8, 3, 1), -1, runs(9, 9)}, plan(5, 9, 8, 3, 8))
	tells(t, asked{4, 6, wants(5, 1, 1, 3, 7, 1, 8, 3, 1), -1, runs(9, 9)}, plan(3, 9, 8, 5, 8))
	tells(t, asked{4, 6, wants(5, 1, 1, 3, 2, 1, 8, 7, 1), -1, runs(9, 9)}, plan(8, 9, 8, 5, 3))
	// One fits alone, but not behind the others.
	tells(t, asked{4, 6, wants(5, 1, 1, 3, 2, 2, 8, 4, 1), -1, runs(9, 9)}, plan(8, 5, 0, 5, 3))
	tells(t, asked{4, 6, wants(5, 1, 1, 3, 2, 2, 8, 3, 1), -1, runs(9, 9)}, plan(-1, 0, 0, 5, 3, 8))
	// Only the first one that does not fit is pinned.
	tells(t, asked{4, 6, wants(5, 7, 1, 3, 8, 1, 8, 9, 1), -1, runs(9, 9)}, plan(5, 9, 8))
	tells(t, asked{4, 0, wants(5, 7, 1, 3, 1, 1, 8, 9, 1), -1, runs(9, 9)}, plan(5, 9, 2))
}

// The holder needs 4, there are 2 free and 2 till 8; now is 3.
func TestP152EndsByTheShadow(t *testing.T) {
	for _, holder := range []int{-1, 0} {
		with := func(numbers ...int) asked {
			return asked{3, 2, append(wants(0, 4, 1), wants(numbers...)...), holder, runs(2, 8)}
		}
		tells(t, with(1, 1, 4), plan(0, 8, 0, 1))
		tells(t, with(1, 1, 5), plan(0, 8, 0, 1))
		tells(t, with(1, 1, 6), plan(0, 8, 0))
		tells(t, with(1, 2, 5), plan(0, 8, 0, 1))
		tells(t, with(1, 2, 6), plan(0, 8, 0))
		tells(t, with(1, 3, 5), plan(0, 8, 0))
		tells(t, with(1, 1, 5, 2, 1, 5, 3, 1, 1), plan(0, 8, 0, 1, 2))
		tells(t, with(1, 1, 6, 2, 1, 5, 3, 1, 6, 4, 1, 4), plan(0, 8, 0, 2, 4))
		tells(t, with(1, 2, 6, 2, 2, 5, 3, 1, 1), plan(0, 8, 0, 2))
		tells(t, with(1, 1, mostLimit), plan(0, 8, 0))
	}
}

// The holder needs 4, there are 3 free and 4 till 8: 3 are extra.
func TestP152TakesExtra(t *testing.T) {
	for _, holder := range []int{-1, 0} {
		with := func(numbers ...int) asked {
			return asked{3, 3, append(wants(0, 4, 1), wants(numbers...)...), holder, runs(4, 8)}
		}
		tells(t, with(1, 3, 6), plan(0, 8, 3, 1))
		tells(t, with(1, 4, 6), plan(0, 8, 3))
		tells(t, with(1, 1, 6, 2, 1, 7, 3, 1, mostLimit, 4, 1, 6), plan(0, 8, 3, 1, 2, 3))
		tells(t, with(1, 2, 6, 2, 2, 6, 3, 1, 6), plan(0, 8, 3, 1, 3))
		tells(t, with(1, 1, 5, 2, 2, 6), plan(0, 8, 3, 1, 2))
	}
	// More is free than is extra: 5 free, 2 till 8, the holder needs 6, so 1 is extra.
	with := func(numbers ...int) asked {
		return asked{3, 5, append(wants(numbers...), wants(0, 6, 1)...), 0, runs(2, 8)}
	}
	tells(t, with(1, 1, 6), plan(0, 8, 1, 1))
	tells(t, with(1, 2, 6), plan(0, 8, 1))
	tells(t, with(1, 1, 6, 2, 1, 6), plan(0, 8, 1, 1))
	tells(t, with(1, 2, 6, 2, 1, 6, 3, 1, 6), plan(0, 8, 1, 2))
	// One that ends by the shadow takes nothing of it, ahead of or behind those that do.
	tells(t, with(1, 1, 5, 2, 1, 6, 3, 1, 6), plan(0, 8, 1, 1, 2))
	tells(t, with(1, 1, 6, 2, 1, 5, 3, 1, 6, 4, 3, 1), plan(0, 8, 1, 1, 2, 4))
	tells(t, with(1, 4, 5, 2, 1, 6, 3, 1, 5), plan(0, 8, 1, 1, 2))
	// What is extra at the shadow may be more than what is free now: one that does not fit takes nothing of it.
	tells(t, asked{3, 1, wants(1, 2, 9, 2, 1, 9, 0, 3, 1), 0, runs(4, 4)}, plan(0, 4, 2, 2))
	tells(t, asked{3, 1, wants(1, 1, 9, 2, 1, 9, 0, 3, 1), 0, runs(4, 4)}, plan(0, 4, 2, 1))
}

// Extra is told as it was ahead of the filling.
func TestP152ExtraIsToldWhole(t *testing.T) {
	for many := range 4 {
		a := asked{3, 3, wants(0, 4, 1), -1, runs(4, 8)}
		want := plan(0, 8, 3)
		for job := range many {
			a.wants = append(a.wants, api.Want{Job: job + 1, Nodes: 1, Limit: 9})
			want.Starts = append(want.Starts, job+1)
		}
		tells(t, a, want)
	}
}

// Those that were started just now run till now and their limits, and count for the shadow and what is extra.
func TestP152StartedJustNowCount(t *testing.T) {
	tells(t, asked{3, 4, wants(0, 3, 2, 1, 2, 1), -1, runs(1, 9)}, plan(1, 5, 2, 0))
	tells(t, asked{3, 4, wants(0, 3, 7, 1, 2, 1), -1, runs(1, 9)}, plan(1, 9, 0, 0))
	tells(t, asked{3, 4, wants(0, 3, 6, 1, 2, 1), -1, runs(1, 9)}, plan(1, 9, 3, 0))
	tells(t, asked{3, 4, wants(1, 2, 1, 0, 3, 2), 0, runs(1, 9)}, plan(1, 5, 2, 0))
	tells(t, asked{3, 4, wants(1, 2, 1, 2, 1, 1, 0, 3, 2), 0, runs(1, 9)}, plan(1, 5, 2, 0, 2))
	// Two of them, of which the holder needs the second one's nodes.
	tells(t, asked{3, 4, wants(0, 1, 2, 1, 2, 4, 2, 3, 1), -1, nil}, plan(2, 7, 1, 0, 1))
	tells(t, asked{3, 4, wants(0, 1, 4, 1, 2, 2, 2, 3, 1), -1, nil}, plan(2, 5, 0, 0, 1))
	// Those that fill don't: the shadow is told as it was ahead of them.
	tells(t, asked{3, 3, wants(0, 4, 1, 1, 1, 2, 2, 1, 9), -1, runs(2, 8)}, plan(0, 8, 1, 1, 2))
}

func TestP152NobodyHoldsThen(t *testing.T) {
	for _, a := range []asked{
		{9, 5, wants(1, 5, 1), -1, nil},
		{9, 5, wants(1, 5, 1), 1, runs(2, 11)},
		{9, 5, wants(1, 2, 1, 0, 3, 1), 0, runs(2, 11, 3, 10)},
	} {
		if p := checked(t, a); p.Holder != -1 || p.Shadow != 0 || p.Extra != 0 || len(p.Starts) != len(a.wants) {
			t.Errorf("%+v: %+v", a, p)
		}
	}
}

// A job's number is a name: which one a want has is seen in the plan alone.
func TestP152AnyJob(t *testing.T) {
	d := &dice{5}
	for range 2000 {
		a := drawn(d)
		p := checked(t, a)
		names := map[int]int{-1: -1}
		b := a.copied()
		for i, w := range a.wants {
			names[w.Job] = int(d.word()>>1) - i
			b.wants[i].Job = names[w.Job]
		}
		b.holder = names[a.holder]
		if !b.isRight() {
			continue
		}
		for i, job := range p.Starts {
			p.Starts[i] = names[job]
		}
		p.Holder = names[p.Holder]
		tells(t, b, p)
	}
}

// drawn is a pass that may be: on a small machine, so that just enough is often there, or a great one, and with more nodes than a machine has at times.
func drawn(d *dice) asked {
	most := pick(d, []int{2, 4, 8, 8, 16, mostNodes})
	span := pick(d, []int{2, 5, 12, 12, 40, mostLimit})
	a := asked{now: pick(d, []int{0, 1, 7, d.below(lastNow + 1), lastNow}), free: d.from(0, most), holder: -1}
	for range d.below(7) {
		a.runs = append(a.runs, api.Run{Nodes: d.from(1, most), End: a.now + d.from(1, span)})
	}
	if d.below(10) == 0 && len(a.runs) > 0 {
		a.runs[d.below(len(a.runs))].End = lastEnd
	}
	all := min(a.all(), mostNodes)
	for range d.below(9) {
		if all == 0 {
			break
		}
		w := api.Want{Job: d.below(1000), Nodes: d.from(1, pick(d, []int{1, min(2, all), (all + 1) / 2, all})), Limit: d.from(1, span)}
		if a.rank(w.Job) < 0 {
			a.wants = append(a.wants, w)
		}
	}
	if len(a.wants) > 0 && d.below(3) > 0 {
		a.holder = pick(d, a.wants).Job
	}
	return a
}

// P15.1 to P15.3 and P15.5: what may be drawn, with all that belongs to a plan.
func TestP153DrawnPasses(t *testing.T) {
	d := &dice{10}
	var kept, pinned, filled, free int
	for range 60000 {
		a := drawn(d)
		if !a.isRight() {
			t.Fatalf("drawn wrongly: %+v", a)
		}
		p := checked(t, a)
		switch {
		case p.Holder == -1:
			free++
		case p.Holder == a.holder:
			kept++
		default:
			pinned++
		}
		if p.Holder != -1 && len(p.Starts) > 0 && isFiller(a, p, p.Starts[len(p.Starts)-1]) {
			filled++
		}
	}
	if min(kept, pinned, filled, free) < 5000 {
		t.Error("too few of a kind:", kept, pinned, filled, free)
	}
}

// One number of a pass that may be is made another: it may be still, or not.
func TestP151Drawn(t *testing.T) {
	d := &dice{15}
	wrong := 0
	for range 40000 {
		a := drawn(d)
		n := pick(d, []int{-2, -1, 0, 1, 2, a.now, a.now + 1, a.all(), a.all() + 1, 255, 256, 257, mostLimit, mostLimit + 1, lastNow, lastNow + 1, lastEnd, lastEnd + 1, math.MinInt, math.MaxInt, int(d.word())})
		fields := []*int{&a.now, &a.free, &a.holder}
		for i := range a.runs {
			fields = append(fields, &a.runs[i].Nodes, &a.runs[i].End)
		}
		for i := range a.wants {
			fields = append(fields, &a.wants[i].Job, &a.wants[i].Nodes, &a.wants[i].Limit)
		}
		if *pick(d, fields) = n; !a.isRight() {
			wrong++
		}
		checked(t, a)
	}
	if wrong < 5000 || wrong > 35000 {
		t.Error(wrong)
	}
}

// lists goes through all lists of up to so many of these.
func lists[T any](l []T, most int, then func([]T)) {
	var longer func(have []T)
	longer = func(have []T) {
		then(have)
		for _, x := range l {
			if len(have) < most {
				longer(append(have[:len(have):len(have)], x))
			}
		}
	}
	longer(nil)
}

// All passes of up to three wants and two runs with small numbers, whoever holds.
func TestP152AllSmall(t *testing.T) {
	var someRuns []api.Run
	var someWants []api.Want
	for nodes := 1; nodes <= 3; nodes++ {
		for ticks := 1; ticks <= 2; ticks++ {
			someRuns = append(someRuns, api.Run{Nodes: nodes, End: 5 + ticks})
			someWants = append(someWants, api.Want{Nodes: nodes, Limit: ticks})
		}
	}
	for free := range 4 {
		lists(someRuns, 2, func(runs []api.Run) {
			lists(someWants, 3, func(wants []api.Want) {
				a := asked{5, free, slices.Clone(wants), -1, runs}
				for i := range a.wants {
					a.wants[i].Job = i
				}
				for a.holder = -1; a.holder < len(wants); a.holder++ {
					checked(t, a)
				}
			})
		})
	}
}

// Shadow and Extra are those of profile.Shadow, of the holder's Nodes.
func TestP152AsProfileTells(t *testing.T) {
	d := &dice{20}
	for range 20000 {
		a := drawn(d)
		p := checked(t, a)
		if p.Holder == -1 {
			continue
		}
		free, all := a.free, slices.Clone(a.runs)
		for _, job := range p.Starts {
			if w := a.want(job); !isFiller(a, p, job) {
				free -= w.Nodes
				all = append(all, api.Run{Nodes: w.Nodes, End: a.now + w.Limit})
			}
		}
		at, more, ok := profile.Shadow(a.now, free, all, a.want(p.Holder).Nodes)
		if at != p.Shadow || more != p.Extra || !ok {
			t.Fatalf("%+v: %+v, not %d %d %t", a, p, at, more, ok)
		}
	}
}

// world is a machine that goes on from pass to pass: P15.4.
type world struct {
	asked
	next  int
	told  api.Plan // by the pass ahead
	first int      // the first shadow of the one that holds
	most  int      // ticks that a want asks for
}

func newWorld(d *dice) *world {
	w := &world{most: pick(d, []int{3, 10, 10, 50, mostLimit})}
	w.now = pick(d, []int{0, 5, lastNow / 2})
	w.free = pick(d, []int{1, 2, 3, 4, 8, 8, 40, mostNodes})
	w.holder = -1
	return w
}

// end ends those that run of whom it is so.
func (w *world) end(is func(api.Run) bool) {
	w.runs = slices.DeleteFunc(w.runs, func(r api.Run) bool {
		if is(r) {
			w.free += r.Nodes
			return true
		}
		return false
	})
}

func (w *world) endEarly(d *dice) {
	seldom := pick(d, []int{2, 8, 8, 8})
	w.end(func(api.Run) bool { return d.below(seldom) == 0 })
}

// comeAndGo lets wants come and go but the holder, and ranks them in any way.
func (w *world) comeAndGo(d *dice, nodes int) {
	w.wants = slices.DeleteFunc(w.wants, func(x api.Want) bool { return x.Job != w.holder && d.below(6) == 0 })
	for range d.below(5) {
		if len(w.wants) < 12 {
			w.wants = append(w.wants, api.Want{Job: w.next, Nodes: d.from(1, pick(d, []int{1, (nodes + 1) / 2, nodes})), Limit: d.from(1, w.most)})
			w.next++
		}
	}
	if d.below(3) > 0 {
		w.wants = shuffled(d, w.wants)
	}
}

// later goes to a later time, at most that at which the holder is to be started, and ends those that are due.
func (w *world) later(d *dice) {
	to := w.now + d.from(1, pick(d, []int{1, 1, w.most/2 + 1, 2 * w.most}))
	if w.holder != -1 && (to > w.first || d.below(8) == 0) {
		to = w.first
	}
	if w.holder != -1 && to > w.told.Shadow && d.below(2) == 0 {
		to = w.told.Shadow
	}
	w.goTo(to)
}

func (w *world) goTo(now int) {
	w.now = now
	w.end(func(r api.Run) bool { return r.End <= now })
}

// pass does what a plan tells.
func (w *world) pass(t *testing.T) {
	p := checked(t, w.asked)
	for _, job := range p.Starts {
		x := w.want(job)
		w.free -= x.Nodes
		w.runs = append(w.runs, api.Run{Nodes: x.Nodes, End: w.now + x.Limit})
		w.wants = slices.DeleteFunc(w.wants, func(x api.Want) bool { return x.Job == job })
	}
	if p.Holder != w.holder {
		w.first = p.Shadow
	}
	w.told, w.holder = p, p.Holder
}

// keeps holds a plan against what the passes ahead have promised to who held, by a first shadow and by a last one.
func keeps(t *testing.T, w *world, held, first, last int) (started bool) {
	t.Helper()
	if len(w.told.Starts) > 0 && w.told.Starts[0] == held {
		return true
	}
	if slices.Contains(w.told.Starts, held) || w.told.Holder != held {
		t.Fatalf("%+v: %d was to be started first, or to hold", w, held)
	}
	if w.now >= last || w.now >= first || w.told.Shadow > last || w.told.Shadow > first {
		t.Fatalf("%+v: %d is delayed: it had %d, and %d", w, held, first, last)
	}
	return false
}

func TestP154NeverDelayed(t *testing.T) {
	d := &dice{40}
	var early, just, kept, sooner int
	for range 1500 {
		w := newWorld(d)
		nodes := w.free
		for range 60 {
			held, first, last := w.holder, w.first, w.told.Shadow
			w.endEarly(d)
			w.comeAndGo(d, nodes)
			w.later(d)
			w.pass(t)
			if w.all() != nodes {
				t.Fatalf("%d nodes, not %d", w.all(), nodes)
			}
			switch {
			case held == -1:
			case !keeps(t, w, held, first, last):
				kept++
				if w.told.Shadow < last {
					sooner++
				}
			case w.now == first:
				just++
			default:
				early++
			}
		}
	}
	if min(early, just, kept, sooner) < 1000 {
		t.Error("too few of a kind:", early, just, kept, sooner)
	}
}

// Nobody ends early, and at each tick there are new small ones, ranked ahead, that could take what the holder waits for.
func TestP154EachTick(t *testing.T) {
	d := &dice{45}
	for nodes := 2; nodes <= 12; nodes++ {
		w := &world{}
		w.free, w.holder = nodes, -1
		waited := 0
		for range 400 {
			w.wants = slices.DeleteFunc(w.wants, func(x api.Want) bool { return x.Job != w.holder && x.Nodes < nodes })
			for range 4 {
				w.wants = slices.Insert(w.wants, 0, api.Want{Job: w.next, Nodes: d.from(1, 2), Limit: d.from(1, 20)})
				w.next++
			}
			if w.now%15 == 0 {
				w.wants = append(w.wants, api.Want{Job: w.next, Nodes: nodes, Limit: 3})
				w.next++
			}
			held, first, last := w.holder, w.first, w.told.Shadow
			w.goTo(w.now + 1)
			w.pass(t)
			if held != -1 && !keeps(t, w, held, first, last) {
				waited++
			}
		}
		if waited < 50 {
			t.Error("hardly anybody waits:", nodes, waited)
		}
	}
}

func TestP155Soon(t *testing.T) {
	// Just as late as the last of those that run, of either kind.
	tells(t, asked{3, 1, wants(0, 3, 1), -1, runs(1, 8, 1, 9)}, plan(0, 9, 0))
	tells(t, asked{3, 2, wants(0, 2, 7, 1, 3, 1), -1, runs(1, 9)}, plan(1, 10, 0, 0))
	tells(t, asked{3, 2, wants(0, 2, mostLimit, 1, 2, 1), -1, nil}, plan(1, 3+mostLimit, 0, 0))
	d := &dice{50}
	for range 20000 {
		a := drawn(d)
		isSoon(t, a, checked(t, a))
	}
}

func TestP156OrderOfRuns(t *testing.T) {
	d := &dice{60}
	for range 20000 {
		a := drawn(d)
		p := checked(t, a)
		for range 3 {
			b := a
			b.runs = shuffled(d, a.runs)
			if again := checked(t, b); !alike(p, again) {
				t.Fatalf("%+v: %+v, but %+v of %v", a, p, again, b.runs)
			}
		}
		slices.Reverse(a.runs)
		if again := checked(t, a); !alike(p, again) {
			t.Fatalf("%+v: %+v, and backwards %+v", a, again, p)
		}
	}
}

func TestP156OneWantMore(t *testing.T) {
	d := &dice{65}
	var more, same int
	for range 40000 {
		a := drawn(d)
		p := checked(t, a)
		if p.Holder == -1 || a.all() == 0 {
			continue
		}
		last := api.Want{Job: d.from(1000, 2000), Nodes: d.from(1, pick(d, []int{1, 1, min(a.all(), mostNodes)})), Limit: d.from(1, pick(d, []int{1, 9, mostLimit}))}
		b := a.copied()
		b.wants = append(b.wants, last)
		q := checked(t, b)
		if len(q.Starts) == len(p.Starts)+1 && q.Starts[len(p.Starts)] == last.Job {
			more++
			q.Starts = q.Starts[:len(p.Starts)]
		} else {
			same++
		}
		if !alike(p, q) {
			t.Fatalf("%+v: %+v, and with %v %+v", a, p, last, q)
		}
	}
	if min(more, same) < 2000 {
		t.Error("too few of a kind:", more, same)
	}
}

// Whoever is refused with a want more is refused for that alone.
func TestP156WrongWantMore(t *testing.T) {
	d := &dice{67}
	for range 3000 {
		a := drawn(d)
		b := a.copied()
		b.wants = append(b.wants, api.Want{Job: 5000, Nodes: a.all() + 1, Limit: 1})
		refused(t, b)
		checked(t, a)
	}
}

// Behind the ends of both lists there is room, which is neither looked at nor written to.
func TestHandedInStays(t *testing.T) {
	d := &dice{70}
	for i := range 5000 {
		a := drawn(d)
		if i%10 == 0 {
			a.free = -1
		}
		want, code := a.steps()
		wide := a.copied()
		for range 12 {
			wide.wants = append(wide.wants, api.Want{Job: 3, Nodes: 1, Limit: 1})
			wide.runs = append(wide.runs, api.Run{Nodes: 7, End: -7})
		}
		whole := wide.copied()
		handed := wide
		handed.wants, handed.runs = wide.wants[:len(a.wants)], wide.runs[:len(a.runs)]
		if p, e := handed.pass(); !alike(p, want) || e != code {
			t.Fatalf("%+v: %+v %d", a, p, e)
		}
		if !reflect.DeepEqual(wide, whole) {
			t.Fatalf("%+v is %+v now", whole, wide)
		}
	}
}

func TestAnswersAreTheCallers(t *testing.T) {
	d := &dice{75}
	for range 3000 {
		a := drawn(d)
		want, _ := a.steps()
		first, _ := a.pass()
		second, _ := a.pass()
		whole := first.Starts[:cap(first.Starts)]
		for i := range whole {
			whole[i] = -77
		}
		third, _ := a.pass()
		if b, _ := a.steps(); !alike(b, want) {
			t.Fatalf("%+v: what was handed in shows it", a)
		}
		clear(a.wants)
		clear(a.runs)
		if !alike(second, want) || !alike(third, want) {
			t.Fatalf("%+v and %+v, not %+v", second, third, want)
		}
	}
}

func TestR5AnswersAlike(t *testing.T) {
	d := &dice{80}
	for range 200 {
		a, other := drawn(d), drawn(d)
		want, code := a.pass()
		var wait sync.WaitGroup
		for range 8 {
			wait.Go(func() {
				other.pass()
				if p, e := a.pass(); !alike(p, want) || e != code {
					t.Error("another answer")
				}
			})
		}
		wait.Wait()
	}
}

// Many wants, of which each is looked at.
func TestManyWants(t *testing.T) {
	var l []api.Want
	var starts []int
	for job := range 50000 {
		limit := 9
		if job%500 == 1 {
			limit = 4
			starts = append(starts, job)
		}
		l = append(l, api.Want{Job: job, Nodes: 1, Limit: limit})
	}
	l[0].Nodes = 200
	p, e := Pass(1, 100, l, 0, runs(100, 5))
	if !alike(p, plan(0, 5, 0, starts...)) || e != api.OK {
		t.Error(p, e)
	}
}

// FuzzPass holds any numbers whatever against the steps.
func FuzzPass(f *testing.F) {
	f.Add(uint64(0), 1, 4, -1, 1, 1, 5, 0, 3, 5)
	f.Add(uint64(1), 3, 2, 7, 1, 1, 9, 7, 2, 1)
	f.Add(uint64(2), lastNow, mostNodes, 0, mostNodes, lastEnd, math.MaxInt, mostNodes, mostLimit, 0)
	f.Add(uint64(3), math.MaxInt, math.MinInt, -2, 0, 257, -1, lastEnd+1, mostLimit+1, 7)
	f.Fuzz(func(t *testing.T, seed uint64, now, free, holder, nodes, end, job, asks, limit, other int) {
		d := &dice{seed}
		a := drawn(d)
		a.runs = append(a.runs, api.Run{Nodes: nodes, End: end})
		a.wants = append(a.wants, api.Want{Job: job, Nodes: asks, Limit: limit}, api.Want{Job: other, Nodes: 1, Limit: 1})
		checked(t, a)
		checked(t, asked{now, free, shuffled(d, a.wants), holder, shuffled(d, a.runs)})
		checked(t, asked{now, free, a.wants[len(a.wants)-2:], holder, a.runs[len(a.runs)-1:]})
	})
}

package profile

import (
	"fmt"
	"iter"
	"math"
	"slices"
	"sync"
	"testing"

	"backfill/api"
)

// asked is what all calls of the package are given.
type asked struct {
	now, free int
	runs      []api.Run
}

// The chapter's words, as plainly as can be: nothing is sorted, and each number is summed up anew.

func (a asked) right() bool {
	for _, r := range a.runs {
		if r.Nodes < 1 || r.Nodes > 256 {
			return false
		}
	}
	return a.free >= 0 && a.free <= 256
}

func (a asked) freeAt(t int) int {
	many := a.free
	for _, r := range a.runs {
		if r.End <= t {
			many += r.Nodes
		}
	}
	return many
}

// nextEnd is the least End above t.
func (a asked) nextEnd(t int) (int, bool) {
	next, there := 0, false
	for _, r := range a.runs {
		if r.End > t && (!there || r.End < next) {
			next, there = r.End, true
		}
	}
	return next, there
}

func (a asked) wantSteps() []api.Step {
	if !a.right() {
		return nil
	}
	l := []api.Step{{At: a.now, Free: a.freeAt(a.now)}}
	for t, there := a.nextEnd(a.now); there; t, there = a.nextEnd(t) {
		l = append(l, api.Step{At: t, Free: a.freeAt(t)})
	}
	return l
}

func (a asked) wantAt(t int) int {
	if !a.right() || t < a.now {
		return 0
	}
	return a.freeAt(t)
}

// wantShadow goes from one time to the next, for nothing is freed between two ends.
func (a asked) wantShadow(need int) shade {
	if !a.right() || need < 0 {
		return shade{}
	}
	for t, there := a.now, true; there; t, there = a.nextEnd(t) {
		if many := a.freeAt(t); many >= need {
			return shade{t, many - need, true}
		}
	}
	return shade{}
}

// runs and steps are lists, written out as pairs of numbers.
func runs(numbers ...int) []api.Run {
	var l []api.Run
	for i := 0; i < len(numbers); i += 2 {
		l = append(l, api.Run{Nodes: numbers[i], End: numbers[i+1]})
	}
	return l
}

func steps(numbers ...int) []api.Step {
	var l []api.Step
	for i := 0; i < len(numbers); i += 2 {
		l = append(l, api.Step{At: numbers[i], Free: numbers[i+1]})
	}
	return l
}

type shade struct {
	at, more int
	is       bool
}

// What the package tells.

func (a asked) Steps() []api.Step       { return Steps(a.now, a.free, a.runs) }
func (a asked) All() iter.Seq[api.Step] { return All(a.now, a.free, a.runs) }
func (a asked) At(t int) int            { return At(a.now, a.free, a.runs, t) }
func (a asked) Shadow(need int) (s shade) {
	s.at, s.more, s.is = Shadow(a.now, a.free, a.runs, need)
	return
}

func gone(seq iter.Seq[api.Step]) []api.Step {
	var l []api.Step
	for s := range seq {
		l = append(l, s)
	}
	return l
}

// times are those at which something may change, and those beside them.
func (a asked) times() []int {
	l := []int{math.MinInt, math.MinInt + 1, -1, 0, 1, math.MaxInt - 1, math.MaxInt}
	add := func(t int) {
		// Beside the least and the greatest one these wrap round, which does no harm: any time may be asked for.
		l = append(l, t-1, t, t+1)
	}
	add(a.now)
	for _, r := range a.runs {
		add(r.End)
	}
	return l
}

// needs are those that a step meets just so, and those beside them.
func (a asked) needs() []int {
	l := []int{math.MinInt, -257, -1, 0, 1, 2, 255, 256, 257, math.MaxInt - 1, math.MaxInt}
	for _, s := range a.wantSteps() {
		l = append(l, s.Free-1, s.Free, s.Free+1)
	}
	return l
}

// same holds all that the package tells against the chapter's words.
func (a asked) same(t *testing.T) {
	t.Helper()
	if l, want := a.Steps(), a.wantSteps(); !slices.Equal(l, want) {
		t.Fatalf("Steps of %v: %v, not %v", a, l, want)
	}
	if l, want := gone(a.All()), a.wantSteps(); !slices.Equal(l, want) {
		t.Fatalf("All of %v: %v, not %v", a, l, want)
	}
	for _, x := range a.times() {
		if n, want := a.At(x), a.wantAt(x); n != want {
			t.Fatalf("At of %v, %d: %d, not %d", a, x, n, want)
		}
	}
	for _, x := range a.needs() {
		if s, want := a.Shadow(x), a.wantShadow(x); s != want {
			t.Fatalf("Shadow of %v, %d: %v, not %v", a, x, s, want)
		}
	}
}

func mixed(seed uint64) uint64 {
	seed += 0x9e3779b97f4a7c15
	seed = (seed ^ seed>>30) * 0xbf58476d1ce4e5b9
	seed = (seed ^ seed>>27) * 0x94d049bb133111eb
	return seed ^ seed>>31
}

// dice throws numbers below n, one after another.
type dice uint64

func (d *dice) below(n int) int {
	*d++
	return int(mixed(uint64(*d)) % uint64(n))
}

// time is one of a few, so that ends meet often, or an edge.
func (d *dice) time() int {
	edges := []int{math.MinInt, math.MinInt + 1, math.MaxInt, math.MaxInt - 1, 1 << 31, -1 << 31, 1 << 32, 1<<32 + 6, api.Horizon}
	if d.below(8) == 0 {
		return edges[d.below(len(edges))]
	}
	return d.below(24) - 8
}

func (d *dice) nodes(least int) int {
	if d.below(8) == 0 {
		return []int{least, 255, 256}[d.below(3)]
	}
	return least + d.below(9)
}

func (d *dice) asked(most int) asked {
	a := asked{now: d.time(), free: d.nodes(0)}
	for range d.below(most + 1) {
		a.runs = append(a.runs, api.Run{Nodes: d.nodes(1), End: d.time()})
	}
	return a
}

// many are askings that are right, of all sizes.
func many(yield func(asked) bool) {
	d := dice(5)
	for i := range 3000 {
		if !yield(d.asked([]int{0, 1, 2, 3, 5, 8, 40}[i%7])) {
			return
		}
	}
}

func example() asked { return asked{1, 2, runs(3, 6, 1, 9, 2, 6)} }

func TestExamples(t *testing.T) {
	a := example()
	seven, less, empty := a, a, a
	seven.now, seven.free = 7, 0
	less.free = -1
	empty.runs = append(slices.Clone(a.runs), api.Run{Nodes: 0, End: 8})
	for _, x := range []struct {
		asked
		want []api.Step
	}{{a, steps(1, 2, 6, 7, 9, 8)}, {seven, steps(7, 5, 9, 6)}, {less, nil}, {empty, nil}} {
		if l := x.Steps(); !slices.Equal(l, x.want) {
			t.Errorf("Steps of %v: %v, not %v", x.asked, l, x.want)
		}
	}
	for _, x := range [][2]int{{0, 0}, {1, 2}, {6, 7}, {100, 8}} {
		if n := a.At(x[0]); n != x[1] {
			t.Errorf("At %d: %d, not %d", x[0], n, x[1])
		}
	}
	for _, x := range []struct {
		need int
		want shade
	}{{2, shade{1, 0, true}}, {3, shade{6, 4, true}}, {8, shade{9, 0, true}}, {9, shade{}}, {0, shade{1, 2, true}}, {-1, shade{}}} {
		if s := a.Shadow(x.need); s != x.want {
			t.Errorf("Shadow of %d: %v, not %v", x.need, s, x.want)
		}
	}
}

// P5.1 to P5.4, the edges one by one, written out: the plain form above is not asked.
func TestEdges(t *testing.T) {
	for _, x := range []struct {
		name string
		asked
		want []api.Step
	}{
		{"no runs", asked{4, 3, nil}, steps(4, 3)},
		{"an empty list of runs", asked{4, 3, []api.Run{}}, steps(4, 3)},
		{"no runs and none free", asked{4, 0, nil}, steps(4, 0)},
		{"all free", asked{4, 256, nil}, steps(4, 256)},
		{"ends before now", asked{4, 3, runs(2, 3)}, steps(4, 5)},
		{"ends at now", asked{4, 3, runs(2, 4)}, steps(4, 5)},
		{"ends behind now", asked{4, 3, runs(2, 5)}, steps(4, 3, 5, 5)},
		{"before, at and behind", asked{4, 3, runs(4, 5, 2, 4, 1, 3)}, steps(4, 6, 5, 10)},
		{"at the same time", asked{4, 3, runs(2, 5, 4, 5, 8, 5)}, steps(4, 3, 5, 17)},
		{"the greatest time", asked{4, 3, runs(2, math.MaxInt)}, steps(4, 3, math.MaxInt, 5)},
		{"the least time", asked{4, 3, runs(2, math.MinInt)}, steps(4, 5)},
		{"now is the greatest time", asked{math.MaxInt, 3, runs(2, math.MaxInt, 4, math.MinInt)}, steps(math.MaxInt, 9)},
		{"now is the least time", asked{math.MinInt, 3, runs(2, math.MaxInt, 4, math.MinInt, 8, 0)}, steps(math.MinInt, 7, 0, 15, math.MaxInt, 17)},
		{"times below 0", asked{-9, 0, runs(1, -3, 2, -5, 4, -9, 8, -10)}, steps(-9, 12, -5, 14, -3, 15)},
		{"runs of all nodes", asked{0, 256, runs(256, 2, 256, 1, 256, 2)}, steps(0, 256, 1, 512, 2, 1024)},
	} {
		if l := x.Steps(); !slices.Equal(l, x.want) {
			t.Errorf("%s: %v, not %v", x.name, l, x.want)
		}
		if l := gone(x.All()); !slices.Equal(l, x.want) {
			t.Errorf("%s: All: %v, not %v", x.name, l, x.want)
		}
		x.same(t)
	}
}

func TestAtBelowNow(t *testing.T) {
	a := asked{4, 3, runs(2, 1, 8, 6)}
	for _, x := range [][2]int{{math.MinInt, 0}, {0, 0}, {1, 0}, {3, 0}, {4, 5}, {5, 5}, {6, 13}, {7, 13}, {math.MaxInt, 13}} {
		if n := a.At(x[0]); n != x[1] {
			t.Errorf("At %d: %d, not %d", x[0], n, x[1])
		}
	}
}

func TestShadowOfNeeds(t *testing.T) {
	a := asked{4, 3, runs(2, 1, 8, 6, 1, 9)}
	for _, x := range []struct {
		name string
		need int
		want shade
	}{
		{"the least", math.MinInt, shade{}}, {"below 0", -1, shade{}},
		{"of 0", 0, shade{4, 5, true}},
		{"met now", 4, shade{4, 1, true}}, {"met just now", 5, shade{4, 0, true}},
		{"met later", 6, shade{6, 7, true}}, {"met just later", 13, shade{6, 0, true}}, {"met at last", 14, shade{9, 0, true}},
		{"met never", 15, shade{}}, {"the greatest", math.MaxInt, shade{}},
	} {
		if s := a.Shadow(x.need); s != x.want {
			t.Errorf("%s: %v, not %v", x.name, s, x.want)
		}
	}
	// A shadow at 0 with nothing more is still one.
	if s := (asked{}).Shadow(0); s != (shade{0, 0, true}) {
		t.Error("of nothing:", s)
	}
	if s := (asked{}).Shadow(1); s != (shade{}) {
		t.Error("never:", s)
	}
}

func TestNumbersNotRight(t *testing.T) {
	none := func(name string, a asked) {
		t.Helper()
		if l := a.Steps(); len(l) != 0 {
			t.Errorf("%s: %v", name, l)
		}
		seq := a.All()
		if seq == nil {
			t.Fatalf("%s: an iterator is nil", name)
		}
		for range 2 {
			if l := gone(seq); len(l) != 0 {
				t.Errorf("%s: All: %v", name, l)
			}
		}
		for _, x := range a.times() {
			if n := a.At(x); n != 0 {
				t.Errorf("%s: At %d: %d", name, x, n)
			}
		}
		for _, x := range []int{math.MinInt, -1, 0, 1, 5, 256, math.MaxInt} {
			if s := a.Shadow(x); s != (shade{}) {
				t.Errorf("%s: Shadow of %d: %v", name, x, s)
			}
		}
	}
	for _, free := range []int{-1, -256, math.MinInt, 257, 1 << 32, math.MaxInt} {
		none(fmt.Sprint("free ", free), asked{1, free, nil})
		none(fmt.Sprint("free ", free, " and runs"), asked{1, free, example().runs})
	}
	for _, wrong := range []int{0, -1, -256, math.MinInt, 257, 1 << 32, math.MaxInt} {
		for _, end := range []int{math.MinInt, 0, 1, 6, math.MaxInt} {
			r := api.Run{Nodes: wrong, End: end}
			none(fmt.Sprint("one run ", r), asked{1, 2, []api.Run{r}})
			for place := range 4 {
				none(fmt.Sprint("run ", r, " at ", place), asked{1, 2, slices.Insert(slices.Clone(example().runs), place, r)})
			}
		}
	}
	for _, x := range []asked{{1, 0, nil}, {1, 256, nil}, {1, 2, runs(1, 5)}, {1, 2, runs(256, 5)}} {
		if len(x.Steps()) == 0 {
			t.Errorf("%v is right", x)
		}
	}
}

// P5.1 to P5.4 over askings of all sizes, now and then one that is not right.
func TestPlain(t *testing.T) {
	for a := range many {
		a.same(t)
	}
	d := dice(77)
	for range 400 {
		a := d.asked(5)
		a.free = []int{-1, 257, 3, math.MinInt}[d.below(4)]
		if len(a.runs) > 0 && d.below(2) == 0 {
			a.runs[d.below(len(a.runs))].Nodes = []int{0, -1, 257, math.MaxInt}[d.below(4)]
		}
		a.same(t)
	}
}

// P5.1: a list as long as no machine could have it, with sums above a run's bound.
func TestManyRuns(t *testing.T) {
	var a asked
	a.now = -1
	for i := range 20000 {
		a.runs = append(a.runs, api.Run{Nodes: 256, End: int(mixed(uint64(i)) % 1000)})
	}
	l := a.Steps()
	if len(l) != 1001 || l[1000] != (api.Step{At: 999, Free: 20000 * 256}) {
		t.Fatal(len(l), l[len(l)-1])
	}
	for i, s := range l[1:] {
		if s.At != i || s.Free != a.freeAt(i) {
			t.Fatal(i, s)
		}
	}
	if s := a.Shadow(20000 * 256); s != (shade{999, 0, true}) {
		t.Error(s)
	}
}

// P5.2: a range that is left early, at each step, tells what came till then, and the next one begins anew.
func TestAllLeftEarly(t *testing.T) {
	for a := range many {
		want, seq := a.wantSteps(), a.All()
		for leave := range want {
			var l []api.Step
			for s := range seq {
				l = append(l, s)
				if len(l) == leave+1 {
					break
				}
			}
			if !slices.Equal(l, want[:leave+1]) {
				t.Fatalf("%v left behind %d: %v, not %v", a, leave, l, want[:leave+1])
			}
		}
		if l := gone(seq); !slices.Equal(l, want) {
			t.Fatalf("%v gone through again: %v, not %v", a, l, want)
		}
	}
}

// P5.2: one told not to go on is not to call again.
func TestAllStopsWhenTold(t *testing.T) {
	for leave := range 3 {
		calls := 0
		example().All()(func(api.Step) bool {
			calls++
			return calls <= leave
		})
		if calls != leave+1 {
			t.Errorf("called %d times, not %d", calls, leave+1)
		}
	}
}

func TestAllWithinItself(t *testing.T) {
	seq, want := example().All(), example().wantSteps()
	var outer []api.Step
	for s := range seq {
		outer = append(outer, s)
		if l := gone(seq); !slices.Equal(l, want) {
			t.Fatalf("within %v: %v", s, l)
		}
		for range seq {
			break
		}
	}
	if !slices.Equal(outer, want) {
		t.Error(outer)
	}
}

// P5.2: two ranges over one iterator, one step of each in turn, the second one a step behind.
func TestAllTwoAtOnce(t *testing.T) {
	seq, want := example().All(), example().wantSteps()
	one, stopOne := iter.Pull(seq)
	defer stopOne()
	other, stopOther := iter.Pull(seq)
	defer stopOther()
	var l, m []api.Step
	take := func(next func() (api.Step, bool), to *[]api.Step) {
		if s, there := next(); there {
			*to = append(*to, s)
		}
	}
	take(one, &l)
	for range len(want) {
		take(one, &l)
		take(other, &m)
	}
	if !slices.Equal(l, want) || !slices.Equal(m, want) {
		t.Error(l, m)
	}
}

func TestAllSideBySide(t *testing.T) {
	a := dice(9).first()
	seq, want := a.All(), a.wantSteps()
	var all sync.WaitGroup
	told := make([][]api.Step, 8)
	for i := range told {
		all.Go(func() { told[i] = gone(seq) })
	}
	all.Wait()
	for i, l := range told {
		if !slices.Equal(l, want) {
			t.Errorf("%d: %v, not %v", i, l, want)
		}
	}
}

func (d dice) first() asked {
	a := d.asked(0)
	for range 40 {
		a.runs = append(a.runs, api.Run{Nodes: d.nodes(1), End: d.time()})
	}
	return a
}

// P5.2, R4: what is written into the list behind the call is not seen: ahead of a range, while one runs, and behind one.
func TestAllOfTheRunsAtTheCall(t *testing.T) {
	scribbles := runs(200, 6, 1, 0, 1, 7, 0, 6, -1, 6, 257, 6, 7, math.MinInt, 7, math.MaxInt)
	for a := range many {
		want := a.wantSteps()
		seq := a.All()
		if len(a.runs) == 0 {
			continue
		}
		for i, r := range scribbles {
			a.runs[i%len(a.runs)] = r
			var l []api.Step
			for s := range seq {
				l = append(l, s)
				a.runs[len(l)%len(a.runs)] = scribbles[(i+len(l))%len(scribbles)]
			}
			if !slices.Equal(l, want) {
				t.Fatalf("%v, not %v", l, want)
			}
		}
	}
	a := example()
	a.runs[0].Nodes = 0
	seq := a.All()
	a.runs[0].Nodes = 3
	if l := gone(seq); len(l) != 0 {
		t.Error("a list that was made right behind the call:", l)
	}
}

// R4: neither the list that is handed in nor the spare room behind its end is changed.
func TestHandedInStays(t *testing.T) {
	for a := range many {
		room := append(slices.Clone(a.runs), api.Run{Nodes: 5, End: -40}, api.Run{Nodes: 6, End: 40}, api.Run{Nodes: 0, End: 4})
		kept := slices.Clone(room)
		a.runs = room[:len(a.runs)]
		want := asked{a.now, a.free, slices.Clone(a.runs)}
		want.same(t)
		a.same(t)
		if !slices.Equal(room, kept) {
			t.Fatalf("%v was made %v", kept, room)
		}
	}
}

// R4: what a caller writes into an answer, or behind its end, no other answer shows.
func TestAnswersAreNewMemory(t *testing.T) {
	scribble := func(l []api.Step) {
		l = l[:cap(l)]
		for i := range l {
			l[i] = api.Step{At: -99, Free: -99}
		}
	}
	for a := range many {
		want := a.wantSteps()
		seq := a.All()
		one, other := a.Steps(), a.Steps()
		scribble(one)
		if !slices.Equal(other, want) {
			t.Fatalf("an earlier answer: %v, not %v", other, want)
		}
		if l := a.Steps(); !slices.Equal(l, want) {
			t.Fatalf("a later answer: %v, not %v", l, want)
		}
		if l := gone(seq); !slices.Equal(l, want) {
			t.Fatalf("an iterator: %v, not %v", l, want)
		}
	}
}

// P5.5, said without the plain form.
func TestStepsRise(t *testing.T) {
	for a := range many {
		l := a.Steps()
		all := a.free
		for _, r := range a.runs {
			all += r.Nodes
		}
		if last := l[len(l)-1]; last.Free != all || a.At(math.MaxInt) != all {
			t.Fatalf("%v: the last step is %v, and there are %d nodes", a, last, all)
		}
		for i := range l[1:] {
			if l[i].At >= l[i+1].At || l[i].Free >= l[i+1].Free {
				t.Fatalf("%v: %v does not rise", a, l)
			}
		}
		for _, x := range a.times() {
			want := 0
			for _, s := range l {
				if s.At <= x {
					want = s.Free
				}
			}
			if n := a.At(x); n != want {
				t.Fatalf("%v: At %d: %d, and the step has %d", a, x, n, want)
			}
		}
		for _, need := range a.needs() {
			s := a.Shadow(need)
			if s.is && (!slices.Contains(l, api.Step{At: s.at, Free: need + s.more}) || a.At(s.at) != need+s.more) {
				t.Fatalf("%v: the shadow of %d is %v, which is no step", a, need, s)
			}
		}
	}
}

// noLess tells whether b has at all times as many as a or more, and no shadow that is later.
func noLess(t *testing.T, a, b asked) {
	t.Helper()
	for _, x := range slices.Concat(a.times(), b.times()) {
		if a.At(x) > b.At(x) {
			t.Fatalf("%v has less at %d than %v", b, x, a)
		}
	}
	for _, need := range slices.Concat(a.needs(), b.needs()) {
		if s, u := a.Shadow(need), b.Shadow(need); s.is && (!u.is || u.at > s.at) {
			t.Fatalf("%v: the shadow of %d is later than that of %v", b, need, a)
		}
	}
}

func TestEarlierEndsOrLeftOut(t *testing.T) {
	d := dice(31)
	for a := range many {
		if len(a.runs) == 0 {
			continue
		}
		i := d.below(len(a.runs))
		earlier := asked{a.now, a.free, slices.Clone(a.runs)}
		earlier.runs[i].End = min(earlier.runs[i].End, d.time())
		noLess(t, a, earlier)
		out := asked{a.now, a.free + a.runs[i].Nodes, slices.Delete(slices.Clone(a.runs), i, i+1)}
		if out.right() {
			noLess(t, a, out)
		}
	}
}

// P5.6: what a pass leans on as it fills behind a holder.
func TestOneMoreRun(t *testing.T) {
	d := dice(63)
	byShadow, later := 0, 0
	for a := range many {
		for _, need := range a.needs() {
			s := a.Shadow(need)
			if !s.is || a.free == 0 {
				continue
			}
			more := api.Run{Nodes: 1 + d.below(a.free), End: d.time()}
			with := asked{a.now, a.free - more.Nodes, append(slices.Clone(a.runs), more)}
			want := s
			switch {
			case more.End <= s.at:
				byShadow++
			case more.Nodes <= s.more:
				later++
				want.more -= more.Nodes
			default:
				continue
			}
			if u := with.Shadow(need); u != want {
				t.Fatalf("%v with %v: the shadow of %d is %v, not %v", a, more, need, u, want)
			}
		}
	}
	if byShadow < 1000 || later < 1000 {
		t.Error("too few of a kind:", byShadow, later)
	}
}

func TestOrderIsNotSeen(t *testing.T) {
	d := dice(15)
	alike := func(a, b asked) {
		t.Helper()
		if !slices.Equal(a.Steps(), b.Steps()) || !slices.Equal(gone(a.All()), gone(b.All())) {
			t.Fatalf("Steps of %v and %v are not alike", a, b)
		}
		for _, x := range a.times() {
			if a.At(x) != b.At(x) {
				t.Fatalf("At of %v and %v at %d are not alike", a, b, x)
			}
		}
		for _, need := range a.needs() {
			if a.Shadow(need) != b.Shadow(need) {
				t.Fatalf("Shadow of %v and %v of %d are not alike", a, b, need)
			}
		}
	}
	for a := range many {
		b := asked{a.now, a.free, slices.Clone(a.runs)}
		slices.Reverse(b.runs)
		alike(a, b)
		for i := range b.runs {
			j := d.below(i + 1)
			b.runs[i], b.runs[j] = b.runs[j], b.runs[i]
		}
		alike(a, b)
	}
	// One that is not right is found wherever it stands.
	wrong := asked{1, 2, runs(3, 6, 0, 9, 2, 6)}
	for range wrong.runs {
		wrong.runs = append(wrong.runs[1:], wrong.runs[0])
		alike(asked{1, -1, nil}, wrong)
	}
}

// parted's first list has no room behind it: what is laid there would be written over the second one.
func TestPartedShareNoRoom(t *testing.T) {
	l := runs(1, 1, 2, 2, 3, 2, 4, 5)
	for by, n := range []int{0, 1, 3, 3, 3, 4, 4} {
		ended, left := parted(slices.Clone(l), by)
		if !slices.Equal(ended, l[:n]) || !slices.Equal(left, l[n:]) {
			t.Fatal(by, ended, left)
		}
		_ = append(ended, api.Run{Nodes: 9, End: 9})
		if !slices.Equal(left, l[n:]) {
			t.Error("written over:", by, left)
		}
	}
}

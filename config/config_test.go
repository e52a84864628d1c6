package config

import (
	"math"
	"math/big"
	"testing"

	"backfill/api"
	"backfill/decay"
	"backfill/wide"
)

// The tests hold the package against math/big, by the chapter's words: no edge at 64 bits, and the limits written as numbers.

func whole(n int) *big.Int { return big.NewInt(int64(n)) }

func power(n uint) *big.Int { return new(big.Int).Lsh(big.NewInt(1), n) }

func times(a, b *big.Int) *big.Int { return new(big.Int).Mul(a, b) }

func plus(a, b *big.Int) *big.Int { return new(big.Int).Add(a, b) }

func down(a, b *big.Int) *big.Int { return new(big.Int).Div(a, b) }

// up rounds up what is not below 0.
func up(a, b *big.Int) *big.Int {
	q, rest := new(big.Int).DivMod(a, b, new(big.Int))
	if rest.Sign() > 0 {
		q.Add(q, whole(1))
	}
	return q
}

// numbers are those that the chapter names.
type numbers struct{ e, k, c, m, g *big.Int }

func numbersOf(c api.Config) numbers {
	n := numbers{}
	n.e = down(times(whole(c.Period), power(32)), whole(c.Half))
	n.k = up(power(33), n.e)
	if n.k.Cmp(whole(2)) < 0 {
		n.k = whole(2)
	}
	n.c = times(whole(c.Nodes), whole(c.Period))
	n.m = times(n.c, n.k)
	n.g = times(n.k, plus(whole(1), up(times(n.m, whole(81)), power(31))))
	return n
}

func wantOff(c api.Config) (num, den *big.Int) {
	if c.Fair == 0 {
		return whole(0), whole(1)
	}
	n := numbersOf(c)
	den = times(n.c, power(32))
	each := plus(times(whole(258048), n.g), times(whole(2), n.c))
	return plus(den, times(whole(c.Fair), each)), den
}

func wantWeight(c api.Config) *big.Int {
	return plus(whole(c.Fair), times(whole(c.Size), whole(c.Nodes)))
}

func wantLead(c api.Config) *big.Int { return down(wantWeight(c), whole(c.Age)) }

func wantBound(c api.Config) *big.Int {
	return plus(plus(wantLead(c), whole(1)), times(whole(c.Queue), whole(c.Limit)))
}

// wantReach is the greatest priority that a job can come to.
func wantReach(c api.Config) *big.Int {
	return plus(times(whole(c.Age), wantBound(c)), wantWeight(c))
}

// tooFar holds 1000 times Off against the greatest priority: below 0, 0, above 0.
func tooFar(c api.Config) int {
	num, den := wantOff(c)
	return times(whole(1000), num).Cmp(times(wantReach(c), den))
}

func wantCheck(c api.Config) api.Errno {
	within := func(n, least, most int) bool { return least <= n && n <= most }
	if !within(c.Nodes, 1, 256) || !within(c.Queue, 1, 128) || !within(c.Limit, 1, 1048576) ||
		!within(c.Age, 1, 1048576) || !within(c.Fair, 0, 1048576) || !within(c.Size, 0, 1048576) ||
		!within(c.Period, 1, 1048576) || !within(c.Half, 1, 1073741824) {
		return api.ErrConfigRange
	}
	if numbersOf(c).m.Cmp(power(31)) > 0 {
		return api.ErrConfigUsage
	}
	if plus(times(whole(c.Age), power(40)), wantWeight(c)).Cmp(power(62)) >= 0 {
		return api.ErrConfigScale
	}
	if tooFar(c) > 0 {
		return api.ErrConfigError
	}
	return api.OK
}

func bigOf(n wide.Num) *big.Int {
	return plus(times(new(big.Int).SetUint64(n.Hi), power(64)), new(big.Int).SetUint64(n.Lo))
}

// check holds all six calls against what they must answer, and tells what Check did.
func check(t *testing.T, c api.Config) api.Errno {
	t.Helper()
	before := c
	e := Check(c)
	lead, bound, most, floor := Lead(c), Bound(c), Most(c), Floor(c)
	num, den := Off(c)
	if c != before {
		t.Fatalf("%+v is %+v now", before, c)
	}
	if want := wantCheck(c); e != want {
		t.Fatalf("Check(%+v): %d, not %d", c, e, want)
	}
	if e != api.OK {
		if lead != 0 || bound != 0 || most != 0 || floor != 0 || num != (wide.Num{}) || den != (wide.Num{}) {
			t.Fatalf("%+v is refused by %d, but: %d %d %d %d %v %v", c, e, lead, bound, most, floor, num, den)
		}
		return e
	}
	n := numbersOf(c)
	wantNum, wantDen := wantOff(c)
	for _, k := range []struct {
		name      string
		got, want *big.Int
	}{
		{"Lead", whole(lead), wantLead(c)},
		{"Bound", whole(bound), wantBound(c)},
		{"Most", new(big.Int).SetUint64(most), times(n.m, power(32))},
		{"Floor", new(big.Int).SetUint64(floor), times(n.c, power(32))},
		{"Off's num", bigOf(num), wantNum},
		{"Off's den", bigOf(den), wantDen},
	} {
		if k.got.Cmp(k.want) != 0 {
			t.Fatalf("%s of %+v: %v, not %v", k.name, c, k.got, k.want)
		}
	}
	return e
}

// mixed goes through numbers without an order, always the same ones.
func mixed(seed uint64) uint64 {
	seed += 0x9e3779b97f4a7c15
	seed = (seed ^ seed>>30) * 0xbf58476d1ce4e5b9
	seed = (seed ^ seed>>27) * 0x94d049bb133111eb
	return seed ^ seed>>31
}

// drawn is a number from least to most, of any length alike.
func drawn(seed uint64, least, most int) int {
	n := int(mixed(seed)>>1) >> (mixed(seed+7919) % 63)
	return least + n%(most-least+1)
}

func example() api.Config {
	return api.Config{Nodes: 4, Queue: 8, Limit: 10, Age: 1, Fair: 0, Size: 0, Period: 100, Half: 100}
}

// places are the eight numbers of a config, to be written.
func places(c *api.Config) [8]*int {
	return [8]*int{&c.Nodes, &c.Queue, &c.Limit, &c.Age, &c.Fair, &c.Size, &c.Period, &c.Half}
}

var (
	names    = [8]string{"Nodes", "Queue", "Limit", "Age", "Fair", "Size", "Period", "Half"}
	least    = [8]int{1, 1, 1, 1, 0, 0, 1, 1}
	greatest = [8]int{256, 128, 1 << 20, 1 << 20, 1 << 20, 1 << 20, 1 << 20, 1 << 30}
)

// edges of one of the eight: the least, the greatest, what is beside them, 0, below 0, the ends of an int, and what only its lower bits would make right.
func edges(i int) []int {
	return []int{
		least[i], greatest[i], least[i] - 1, greatest[i] + 1, 0, -1, math.MinInt, math.MaxInt,
		least[i] + 1, greatest[i] - 1, -greatest[i], -1 << 32, 1<<32 + least[i], math.MinInt + 1, math.MinInt + greatest[i], math.MaxInt - 1, 1 << 62, 1<<62 + 1,
	}
}

// bases are configs of each kind: two that may be, without Fair and with it, one that is too much usage, one that is off too far, and the least and the greatest of all.
func bases() []api.Config {
	plain := example()
	fair := example()
	fair.Fair = 1000
	usage := example()
	usage.Period, usage.Half = 1, 1<<30
	far := example()
	far.Fair = 1
	low, high := api.Config{}, api.Config{}
	for i := range 8 {
		*places(&low)[i], *places(&high)[i] = least[i], greatest[i]
	}
	return []api.Config{plain, fair, usage, far, low, high}
}

func TestP111EachNumberAtItsEdges(t *testing.T) {
	for _, base := range bases() {
		for i := range 8 {
			for _, n := range edges(i) {
				c := base
				*places(&c)[i] = n
				e := check(t, c)
				if out := n < least[i] || n > greatest[i]; out != (e == api.ErrConfigRange) {
					t.Errorf("%s %d: %d", names[i], n, e)
				}
			}
		}
	}
}

func TestP111EachNumberWithEach(t *testing.T) {
	for _, base := range bases() {
		for i := range 8 {
			for j := range i {
				for _, n := range edges(i) {
					for _, o := range edges(j) {
						c := base
						*places(&c)[i], *places(&c)[j] = n, o
						check(t, c)
					}
				}
			}
		}
	}
}

func TestP111AllNumbersAtEdges(t *testing.T) {
	// The first eight of the edges are those that the ranges and an int have.
	for i := range uint64(20000) {
		c := api.Config{}
		for j, p := range places(&c) {
			l := edges(j)
			*p = l[mixed(i*8+uint64(j))%8]
		}
		check(t, c)
	}
	// Within the ranges alone: which of the three other answers it is hangs on sums and products.
	seen := map[api.Errno]int{}
	for bits := range 1 << 8 {
		c := api.Config{}
		for j, p := range places(&c) {
			*p = [2]int{least[j], greatest[j]}[bits>>j&1]
		}
		seen[check(t, c)]++
	}
	if seen[api.OK] == 0 || seen[api.ErrConfigUsage] == 0 || seen[api.ErrConfigError] == 0 || seen[api.ErrConfigRange]+seen[api.ErrConfigScale] != 0 {
		t.Errorf("at the ends of the ranges: %v", seen)
	}
}

// drawnConfig is one within its ranges.
func drawnConfig(seed uint64) api.Config {
	c := api.Config{}
	for j, p := range places(&c) {
		*p = drawn(seed*8+uint64(j), least[j], greatest[j])
	}
	return c
}

func TestP111DrawnConfigs(t *testing.T) {
	seen := map[api.Errno]int{}
	for i := range uint64(20000) {
		seen[check(t, drawnConfig(i))]++
		// Short queues of short jobs, whose priorities stay low.
		c := drawnConfig(i + 20000)
		c.Queue, c.Limit, c.Age, c.Fair = drawn(i, 1, 8), drawn(i+1, 1, 64), drawn(i+2, 1, 8), drawn(i+3, 1, 1<<10)
		c.Size = c.Size * int(i%2)
		seen[check(t, c)]++
	}
	if seen[api.OK] < 3000 || seen[api.ErrConfigUsage] < 1000 || seen[api.ErrConfigError] < 1000 || len(seen) != 3 {
		t.Errorf("the answers are %v", seen)
	}
}

func TestP111TheFirstErrorIsTold(t *testing.T) {
	// Too much usage, and off too far: each for itself an error.
	both := example()
	both.Fair, both.Period, both.Half = 1, 1, 1<<30
	if numbersOf(both).m.Cmp(power(31)) <= 0 || tooFar(both) <= 0 {
		t.Fatal("these are not both errors")
	}
	if e := check(t, both); e != api.ErrConfigUsage {
		t.Errorf("usage and error: %d", e)
	}
	for i := range 8 {
		for _, n := range []int{least[i] - 1, greatest[i] + 1, math.MinInt, math.MaxInt} {
			c := both
			*places(&c)[i] = n
			if e := check(t, c); e != api.ErrConfigRange {
				t.Errorf("%s %d, usage and error: %d", names[i], n, e)
			}
		}
	}
	// Out of its range, Age would make priorities that do not fit.
	scale := both
	scale.Age = 1 << 22
	if e := check(t, scale); e != api.ErrConfigRange {
		t.Errorf("range and scale: %d", e)
	}
}

func TestP111ScaleIsNeverTold(t *testing.T) {
	for _, c := range bases() {
		c.Nodes, c.Age, c.Size = 256, 1<<20, 1<<20
		for _, fair := range []int{0, 1, 1 << 19, 1 << 20} {
			c.Fair = fair
			if e := check(t, c); e == api.ErrConfigScale {
				t.Errorf("%+v: %d", c, e)
			}
		}
	}
}

func TestP111UsageJustAt(t *testing.T) {
	for _, s := range []struct {
		nodes, period, half int
		k, m                int
		want                api.Errno
	}{
		// K is 2: from as long a period as its half-life on.
		{256, 1 << 20, 1 << 20, 2, 1 << 29, api.OK},
		{256, 1 << 20, 1, 2, 1 << 29, api.OK},
		{256, 1 << 20, 1<<20 - 1, 2, 1 << 29, api.OK},
		{256, 1 << 20, 1<<20 + 1, 3, 3 << 28, api.OK},
		{256, 1<<20 - 1, 1 << 20, 3, 3 * 256 * (1<<20 - 1), api.OK},
		{1, 1, 1, 2, 2, api.OK},
		// 2^33 / e is whole.
		{256, 1 << 20, 1 << 22, 8, 1 << 31, api.OK},
		{256, 1<<20 - 4, 1<<22 - 16, 8, 1<<31 - 8192, api.OK},
		{128, 1 << 20, 1 << 23, 16, 1 << 31, api.OK},
		{129, 1 << 20, 1 << 23, 16, 129 << 24, api.ErrConfigUsage},
		{1, 1 << 20, 1 << 30, 1 << 11, 1 << 31, api.OK},
		{2, 1 << 20, 1 << 30, 1 << 11, 1 << 32, api.ErrConfigUsage},
		{1, 2, 1 << 30, 1 << 30, 1 << 31, api.OK},
		// It is rounded up: to what is still the most, to one node-tick more, and further.
		{256, 1 << 20, 1<<22 - 1, 8, 1 << 31, api.OK},
		{256, 1 << 20, 1<<22 + 1, 9, 9 << 28, api.ErrConfigUsage},
		{3, 1, 357913941, 715827883, 1<<31 + 1, api.ErrConfigUsage},
		{2, 1, 357913941, 715827883, 2 * 715827883, api.OK},
		{1, 3, 3 * 357913941, 715827883, 1<<31 + 1, api.ErrConfigUsage},
		// e is 4, the least, and 5.
		{1, 1, 1 << 30, 1 << 31, 1 << 31, api.OK},
		{1, 1, 858993460, 1 << 31, 1 << 31, api.OK},
		{1, 1, 858993459, 1717986919, 1717986919, api.OK},
		{2, 1, 1 << 30, 1 << 31, 1 << 32, api.ErrConfigUsage},
		{2, 1, 858993459, 1717986919, 2 * 1717986919, api.ErrConfigUsage},
		{256, 1, 1 << 30, 1 << 31, 1 << 39, api.ErrConfigUsage},
	} {
		c := example()
		c.Nodes, c.Period, c.Half = s.nodes, s.period, s.half
		if n := numbersOf(c); n.k.Cmp(whole(s.k)) != 0 || n.m.Cmp(whole(s.m)) != 0 {
			t.Errorf("%+v: K %v, not %d; M %v, not %d", c, n.k, s.k, n.m, s.m)
		}
		if e := check(t, c); e != s.want {
			t.Errorf("Check(%+v): %d, not %d", c, e, s.want)
		}
		if most := Most(c); s.want == api.OK && most != uint64(s.m)<<32 {
			t.Errorf("Most(%+v): %d, not %d", c, most, uint64(s.m)<<32)
		}
	}
}

func TestP111UsageOnBothSides(t *testing.T) {
	// K rises with the half-life, M with K: so there is a greatest half-life that may be.
	for i := range uint64(500) {
		c := example()
		c.Nodes, c.Period = drawn(i, 1, 256), drawn(i+1000, 1, 1<<20)
		below, above := 1, 1<<30+1
		for above-below > 1 {
			c.Half = (below + above) / 2
			if numbersOf(c).m.Cmp(power(31)) <= 0 {
				below = c.Half
			} else {
				above = c.Half
			}
		}
		c.Half = below
		if e := check(t, c); e != api.OK {
			t.Errorf("the greatest half-life of %+v: %d", c, e)
		}
		c.Half++
		if e := check(t, c); c.Half <= 1<<30 && e != api.ErrConfigUsage {
			t.Errorf("one more than the greatest half-life of %+v: %d", c, e)
		}
	}
}

// reachOf gives a config such an Age, and such a Queue, Limit and Size, that its greatest priority is just that; false, if it finds none.
func reachOf(c api.Config, reach, age int) (api.Config, bool) {
	c.Age = age
	for c.Size = 0; c.Size <= 200; c.Size++ {
		weight := c.Fair + c.Size*c.Nodes
		rest := reach - weight - age*(weight/age+1)
		if rest <= 0 || rest%age != 0 {
			continue
		}
		for c.Queue = 1; c.Queue <= 128; c.Queue++ {
			c.Limit = rest / age / c.Queue
			if c.Limit >= 1 && c.Limit <= 1<<20 && c.Limit*c.Queue*age == rest {
				return c, true
			}
		}
	}
	return c, false
}

// checkReach holds Check against the greatest priorities just at that number, one below, one above, by three ways to weigh age.
func checkReach(t *testing.T, c api.Config, reach int, at, below, above api.Errno) int {
	t.Helper()
	asked := 0
	for _, age := range []int{1, 2, 7} {
		for _, k := range []struct {
			reach int
			want  api.Errno
		}{{reach - 1, below}, {reach, at}, {reach + 1, above}} {
			d, ok := reachOf(c, k.reach, age)
			if !ok {
				continue
			}
			asked++
			if got := wantReach(d); got.Cmp(whole(k.reach)) != 0 {
				t.Fatalf("%+v comes to %v, not %d", d, got, k.reach)
			}
			if e := check(t, d); e != k.want {
				t.Errorf("Check(%+v): %d, not %d", d, e, k.want)
			}
		}
	}
	return asked
}

func TestP111ErrorJustAt(t *testing.T) {
	// In these 1000 times Off is a whole number.
	asked := 0
	for _, s := range []struct{ nodes, period, half, fair, reach int }{
		{8, 1024, 93704780, 524288, 40818125},
		{64, 32, 757966, 1048576, 7287375},
		{8, 512, 9104675, 524288, 1915625},
		{2, 16384, 376764499, 1048576, 5129625},
		{224, 64, 4231579, 1048576, 42423375},
		{16, 2304, 58984382, 524288, 3194875},
		{64, 128, 13576646, 131072, 13664375},
		{8, 256, 6424176, 262144, 1930875},
		{36, 512, 22019024, 1048576, 17934375},
		{20, 512, 10155171, 1048576, 4149975},
		{40, 256, 23530592, 1048576, 82566075},
		{5, 8192, 127220692, 1048576, 2341875},
		{256, 8, 489861, 524288, 20721125},
		{4, 4096, 234600764, 1048576, 31715625},
	} {
		c := example()
		c.Nodes, c.Period, c.Half, c.Fair = s.nodes, s.period, s.half, s.fair
		num, den := wantOff(c)
		if times(whole(1000), num).Cmp(times(whole(s.reach), den)) != 0 {
			t.Fatalf("1000 times Off of %+v is not %d", c, s.reach)
		}
		asked += checkReach(t, c, s.reach, api.OK, api.ErrConfigError, api.OK)
	}
	if asked < 50 {
		t.Errorf("only %d were asked", asked)
	}
}

func TestP111ErrorBetweenTwoPriorities(t *testing.T) {
	// Nearly always 1000 times Off is no whole number: the one below it is too low, the one above it will do.
	asked, beyond := 0, 0
	for i := range uint64(4000) {
		c := drawnConfig(i + 100000)
		c.Fair = drawn(i, 1, 1<<20)
		if numbersOf(c).m.Cmp(power(31)) > 0 {
			continue
		}
		num, den := wantOff(c)
		far := times(whole(1000), num)
		at, rest := new(big.Int).DivMod(far, den, new(big.Int))
		if rest.Sign() == 0 || at.BitLen() > 40 {
			continue
		}
		n := checkReach(t, c, int(at.Int64()), api.ErrConfigError, api.ErrConfigError, api.OK)
		asked += n
		if n > 0 && far.BitLen() > 64 {
			beyond++
		}
	}
	if asked < 1000 || beyond < 50 {
		t.Errorf("only %d were asked, %d beyond 64 bits", asked, beyond)
	}
}

// nearest draws, of one machine, the Fair whose 1000 times Off is the least above a whole number, or the least below one.
func nearest(c api.Config, above bool) (api.Config, *big.Int, *big.Int) {
	best, at := c, whole(0)
	var rest, den *big.Int
	for i := range uint64(3000) {
		c.Fair = 1<<20 - int(mixed(i+uint64(c.Half))%(1<<19))
		num, d := wantOff(c)
		a, r := new(big.Int).DivMod(times(whole(1000), num), d, new(big.Int))
		if !above && r.Sign() > 0 {
			a, r = plus(a, whole(1)), new(big.Int).Sub(d, r)
		}
		if r.Sign() > 0 && (rest == nil || r.Cmp(rest) < 0) {
			best, at, rest, den = c, a, r, d
		}
	}
	return best, at, down(den, rest)
}

func TestP111ErrorByVeryLittle(t *testing.T) {
	asked := 0
	for _, s := range [][3]int{{5, 7, 40000}, {3, 11, 77777}, {7, 13, 200000}, {11, 17, 333333}, {13, 101, 1000003}, {1, 31, 99991}} {
		c := example()
		c.Nodes, c.Period, c.Half = s[0], s[1], s[2]
		for _, above := range []bool{true, false} {
			d, at, part := nearest(c, above)
			if part.Cmp(whole(500)) < 0 {
				t.Errorf("%+v: only one in %v from a whole number", d, part)
			}
			if above {
				asked += checkReach(t, d, int(at.Int64()), api.ErrConfigError, api.ErrConfigError, api.OK)
			} else {
				asked += checkReach(t, d, int(at.Int64()), api.OK, api.ErrConfigError, api.OK)
			}
		}
	}
	if asked < 60 {
		t.Errorf("only %d were asked", asked)
	}
}

func TestP111WithoutFairNothingIsOff(t *testing.T) {
	// The least that a priority can come to is 2: still it is above 0.
	c := api.Config{Nodes: 1, Queue: 1, Limit: 1, Age: 1, Period: 1, Half: 1}
	if e := check(t, c); e != api.OK || Bound(c) != 2 {
		t.Errorf("%d, %d", e, Bound(c))
	}
	for i := range uint64(2000) {
		c := drawnConfig(i)
		c.Fair = 0
		if e := check(t, c); e != api.OK && e != api.ErrConfigUsage {
			t.Errorf("Check(%+v): %d", c, e)
		}
	}
}

func TestP111RefusedAnswersZero(t *testing.T) {
	usage, far := example(), example()
	usage.Period, usage.Half = 1, 1<<30
	far.Fair = 1
	for _, k := range []struct {
		c    api.Config
		want api.Errno
	}{{api.Config{}, api.ErrConfigRange}, {usage, api.ErrConfigUsage}, {far, api.ErrConfigError}} {
		num, den := Off(k.c)
		if Check(k.c) != k.want || Lead(k.c) != 0 || Bound(k.c) != 0 || Most(k.c) != 0 || Floor(k.c) != 0 || num != (wide.Num{}) || den != (wide.Num{}) {
			t.Errorf("%+v, error %d: %d %d %d %d %v %v", k.c, k.want, Lead(k.c), Bound(k.c), Most(k.c), Floor(k.c), num, den)
		}
	}
}

func TestP112LeadAndBound(t *testing.T) {
	for _, k := range []struct {
		nodes, queue, limit, age, fair, size int
		lead, bound                          int
	}{
		{4, 8, 10, 1, 0, 0, 0, 81},
		{4, 8, 10, 3, 0, 3, 4, 85},
		{4, 8, 10, 5, 0, 3, 2, 83},
		{4, 8, 10, 12, 0, 3, 1, 82},
		{4, 8, 10, 13, 0, 3, 0, 81},
		{4, 8, 10, 4, 1000, 5, 255, 336},
		{4, 8, 10, 1021, 1000, 5, 0, 81},
		{4, 8, 10, 1020, 1000, 5, 1, 82},
		{4, 8, 10, 1019, 1000, 5, 1, 82},
		{256, 1, 1, 1, 0, 1 << 20, 1 << 28, 1<<28 + 2},
		{256, 128, 1 << 20, 1, 1 << 20, 1 << 20, 1<<28 + 1<<20, 1<<28 + 1<<20 + 1 + 1<<27},
		{256, 128, 1 << 20, 1 << 20, 1 << 20, 1 << 20, 257, 258 + 1<<27},
		{256, 128, 1 << 20, 1 << 20, 1<<20 - 1, 1 << 20, 256, 257 + 1<<27},
		{1, 128, 1 << 20, 1 << 20, 0, 1<<20 - 1, 0, 1 + 1<<27},
		{1, 128, 1 << 20, 1, 0, 0, 0, 1 + 1<<27},
		{1, 1, 1, 1, 0, 0, 0, 2},
	} {
		c := api.Config{Nodes: k.nodes, Queue: k.queue, Limit: k.limit, Age: k.age, Fair: k.fair, Size: k.size, Period: 100, Half: 100}
		if e := check(t, c); e != api.OK {
			t.Errorf("Check(%+v): %d", c, e)
		}
		if Lead(c) != k.lead || Bound(c) != k.bound {
			t.Errorf("Lead and Bound of %+v: %d and %d, not %d and %d", c, Lead(c), Bound(c), k.lead, k.bound)
		}
	}
}

func TestP113MostAndFloor(t *testing.T) {
	const q = api.QOne
	for _, k := range []struct {
		nodes, period, half int
		most, floor         uint64
	}{
		{4, 100, 100, 800 * q, 400 * q},
		{1, 1, 1, 2 * q, q},
		{1, 1, 1 << 30, 1 << 63, q},
		{256, 1 << 20, 1 << 22, 1 << 63, 1 << 60},
		{256, 1 << 20, 1 << 20, 1 << 61, 1 << 60},
		{256, 1 << 20, 1, 1 << 61, 1 << 60},
		{3, 7, 10, 63 * q, 21 * q},
		{3, 7, 14, 84 * q, 21 * q},
		{3, 7, 15, 105 * q, 21 * q},
	} {
		c := example()
		c.Nodes, c.Period, c.Half = k.nodes, k.period, k.half
		if e := check(t, c); e != api.OK || Most(c) != k.most || Floor(c) != k.floor {
			t.Errorf("%+v: %d, Most %d, not %d, Floor %d, not %d", c, e, Most(c), k.most, Floor(c), k.floor)
		}
	}
}

// Three accounts share the machine, which is never idle: together they never have more than Most.
func TestP113UsagesStayBelowMost(t *testing.T) {
	for i := range uint64(60) {
		c := example()
		c.Nodes, c.Period = drawn(i, 1, 256), 1+int(mixed(i)%64)
		c.Half = 1 + int(mixed(i+1)%uint64(40*c.Period))
		if check(t, c) != api.OK {
			continue
		}
		factor, _ := decay.Factor(c.Period, c.Half)
		u := [3]uint64{}
		for tick := range 300 * c.Period {
			a := int(mixed(uint64(tick)) % uint64(c.Nodes+1))
			b := int(mixed(uint64(tick)+1) % uint64(c.Nodes-a+1))
			for k, nodes := range [3]int{a, b, c.Nodes - a - b} {
				u[k] = decay.Charge(u[k], nodes)
			}
			if sum := u[0] + u[1] + u[2]; sum > Most(c) {
				t.Fatalf("%+v: %d is above %d", c, sum, Most(c))
			}
			if (tick+1)%c.Period == 0 {
				for k := range u {
					u[k] = decay.Fade(u[k], factor)
				}
			}
		}
	}
}

func TestP114Off(t *testing.T) {
	for _, k := range []struct {
		nodes, period, half int
		g                   int
	}{
		// M * 81 / 2^31 is whole just where M is 2^31: it is 81 then.
		{256, 1 << 20, 1 << 22, 8 * 82},
		{128, 1 << 20, 1 << 23, 16 * 82},
		{1, 1, 1 << 30, 82 << 31},
		{1, 1, 858993460, 82 << 31},
		{1, 2, 1 << 30, 82 << 30},
		// It is rounded up: to 1, to 81, and between.
		{1, 1, 1, 2 * 2},
		{4, 100, 100, 2 * 2},
		{255, 1 << 20, 1 << 22, 8 * 82},
		{253, 1 << 20, 1 << 22, 8 * 82},
		{252, 1 << 20, 1 << 22, 8 * 81},
		{256, 1 << 20, 1 << 20, 2 * 22},
		{19, 697688, 697688, 2 * 3},
		{15, 883738, 883738, 2 * 2},
		{1, 1, 858993459, 1717986919 * 66},
	} {
		for _, fair := range []int{0, 1, 1000, 1<<20 - 1, 1 << 20} {
			// With as great priorities as there can be, hardly any config is refused.
			c := api.Config{Nodes: k.nodes, Queue: 128, Limit: 1 << 20, Age: 1 << 20, Fair: fair, Size: 1 << 20, Period: k.period, Half: k.half}
			if n := numbersOf(c); n.g.Cmp(whole(k.g)) != 0 {
				t.Errorf("%+v: G %v, not %d", c, n.g, k.g)
			}
			if e := check(t, c); e != api.OK && (fair == 0 || tooFar(c) <= 0) {
				t.Errorf("Check(%+v): %d", c, e)
			}
			if num, den := Off(c); fair == 0 && (num != (wide.Num{}) || den != (wide.Num{Lo: 1})) {
				t.Errorf("Off(%+v): %v %v", c, num, den)
			}
		}
	}
}

func TestP114OffBeyond64Bits(t *testing.T) {
	high := 0
	for i := range uint64(3000) {
		c := drawnConfig(i + 300000)
		c.Queue, c.Limit, c.Age, c.Fair = 128, 1<<20, 1<<20, 1<<20-int(mixed(i)%1000)
		// Few node-ticks a period, which are kept long.
		c.Nodes, c.Period = 1+int(mixed(i+1)%4), 1+int(mixed(i+2)%8)
		c.Half = 1<<30/c.Nodes/c.Nodes/c.Period - int(mixed(i+3)%1000000)
		if check(t, c) != api.OK {
			continue
		}
		if num, _ := Off(c); num.Hi > 0 {
			high++
		}
	}
	if high < 100 {
		t.Errorf("only %d go beyond 64 bits", high)
	}
}

func TestChapterExamples(t *testing.T) {
	with := func(turn func(c *api.Config)) api.Config {
		c := example()
		turn(&c)
		return c
	}
	for _, k := range []struct {
		c    api.Config
		want api.Errno
	}{
		{example(), api.OK},
		{with(func(c *api.Config) { c.Nodes = 0 }), api.ErrConfigRange},
		{with(func(c *api.Config) { c.Age = 0 }), api.ErrConfigRange},
		{with(func(c *api.Config) { c.Half = 1<<30 + 1 }), api.ErrConfigRange},
		{with(func(c *api.Config) { c.Period, c.Half = 1, 1<<30 }), api.ErrConfigUsage},
		{with(func(c *api.Config) { c.Fair = 1000 }), api.OK},
		{with(func(c *api.Config) { c.Fair = 1 }), api.ErrConfigError},
	} {
		if e := Check(k.c); e != k.want {
			t.Errorf("Check(%+v): %d, not %d", k.c, e, k.want)
		}
	}
	c := example()
	if Lead(c) != 0 || Bound(c) != 81 || Most(c) != 800<<32 || Floor(c) != 400<<32 {
		t.Errorf("%d %d %d %d", Lead(c), Bound(c), Most(c), Floor(c))
	}
	if num, den := Off(c); num != wide.Of(0) || den != wide.Of(1) {
		t.Errorf("Off: %v %v", num, den)
	}
	c.Fair = 1000
	if num, den := Off(c); num != wide.Of(400<<32+1000*(258048*4+800)) || den != wide.Of(400<<32) {
		t.Errorf("Off with Fair 1000: %v %v", num, den)
	}
	if reach := wantReach(with(func(c *api.Config) { c.Fair = 1 })); reach.Cmp(whole(83)) != 0 {
		t.Errorf("the greatest priority is %v", reach)
	}
}

func TestR5AnswersAlike(t *testing.T) {
	for i := range uint64(500) {
		c := drawnConfig(i)
		e, lead, bound, most, floor := Check(c), Lead(c), Bound(c), Most(c), Floor(c)
		num, den := Off(c)
		other := drawnConfig(i + 1)
		Check(other)
		Off(other)
		num2, den2 := Off(c)
		if e != Check(c) || lead != Lead(c) || bound != Bound(c) || most != Most(c) || floor != Floor(c) || num != num2 || den != den2 {
			t.Errorf("asked again, another answer: %+v", c)
		}
	}
}

func FuzzConfig(f *testing.F) {
	f.Add(4, 8, 10, 1, 1000, 0, 100, 100)
	f.Add(256, 128, 1<<20, 1<<20, 1<<20, 1<<20, 1<<20, 1<<22)
	f.Add(math.MinInt, math.MaxInt, 0, -1, 1, 2, 3, 4)
	f.Fuzz(func(t *testing.T, nodes, queue, limit, age, fair, size, period, half int) {
		check(t, api.Config{Nodes: nodes, Queue: queue, Limit: limit, Age: age, Fair: fair, Size: size, Period: period, Half: half})
	})
}

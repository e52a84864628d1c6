package ledger

import (
	"math"
	"math/big"
	"slices"
	"testing"

	"backfill/api"
	"backfill/config"
	"backfill/decay"
	"backfill/fixq"
)

const (
	q = api.QOne
	m = math.MaxUint64
)

// plain is a ledger by the chapter's words, reckoned by math/big: nothing is lost that the chapter does not ask to lose.
type plain struct {
	nodes  int
	factor uint64
	own    []uint64
}

func plainOf(c api.Config, usage []uint64) *plain {
	f, _ := decay.Factor(c.Period, c.Half)
	return &plain{c.Nodes, f, append([]uint64{}, usage...)}
}

func bigOf(n uint64) *big.Int { return new(big.Int).SetUint64(n) }

// atMost is the number, or the greatest one that a usage can be.
func atMost(n *big.Int) uint64 {
	if !n.IsUint64() {
		return m
	}
	return n.Uint64()
}

func (p *plain) has(account int) bool { return 0 <= account && account < len(p.own) }

func (p *plain) open() int {
	p.own = append(p.own, 0)
	return len(p.own) - 1
}

func (p *plain) charge(account, nodes int) api.Errno {
	if !p.has(account) {
		return api.ErrLedgerNone
	}
	if nodes < 0 || nodes > p.nodes {
		return api.ErrArg
	}
	more := new(big.Int).Lsh(big.NewInt(int64(nodes)), 32)
	p.own[account] = atMost(more.Add(more, bigOf(p.own[account])))
	return api.OK
}

func (p *plain) fade() {
	for i, u := range p.own {
		product := new(big.Int).Mul(bigOf(u), bigOf(p.factor))
		p.own[i] = product.Rsh(product, 63).Uint64()
	}
}

func (p *plain) usage(account int) uint64 {
	if !p.has(account) {
		return 0
	}
	return p.own[account]
}

func (p *plain) sum(accounts []int) uint64 {
	sum := new(big.Int)
	for _, a := range accounts {
		sum.Add(sum, bigOf(p.usage(a)))
	}
	return atMost(sum)
}

func (p *plain) clone() *plain { return &plain{p.nodes, p.factor, slices.Clone(p.own)} }

// mixed goes through numbers without an order, always the same ones.
func mixed(seed uint64) uint64 {
	seed += 0x9e3779b97f4a7c15
	seed = (seed ^ seed>>30) * 0xbf58476d1ce4e5b9
	seed = (seed ^ seed>>27) * 0x94d049bb133111eb
	return seed ^ seed>>31
}

type dice struct{ seed uint64 }

func (d *dice) word() uint64 {
	d.seed++
	return mixed(d.seed)
}

func (d *dice) below(n int) int { return int(d.word() % uint64(n)) }

func pick[T any](d *dice, l []T) T { return l[d.below(len(l))] }

// example is the config of DOC.md's examples.
func example() api.Config {
	return api.Config{Nodes: 4, Queue: 8, Limit: 10, Age: 1, Fair: 0, Size: 0, Period: 100, Half: 100}
}

func with(nodes, period, half int) api.Config {
	c := example()
	c.Nodes, c.Period, c.Half = nodes, period, half
	return c
}

// configs that may be: the smallest and the greatest machine, half-lives shorter than a period, as long, longer, and so long or short that hardly anything or everything fades.
func configs() []api.Config {
	fair := example()
	fair.Fair, fair.Size = 1000, 7
	return []api.Config{
		example(), fair,
		with(1, 1, 1), with(2, 3, 2), with(3, 2, 3), with(5, 100, 101), with(7, 101, 100), with(64, 1000, 7), with(255, 7, 1000),
		with(4, 6200, 100), with(4, 6299, 100), with(4, 6300, 100), with(256, api.MaxPeriod, 1),
		with(256, 1, 1<<20), with(1, 1, api.MaxHalf), with(1, api.MaxPeriod, api.MaxHalf),
	}
}

// outside are numbers of no account, if there are n: also those of which only the lower bits are one's.
func outside(n int) []int {
	return []int{math.MinInt, math.MinInt + 1, -1 << 32, -n - 1, -n, -2, -1, n, n + 1, n + 64, 1 << 31, 1 << 32, 1<<32 + 1, math.MaxInt - 1, math.MaxInt}
}

// usageEdges are usages of any size.
func usageEdges() []uint64 {
	return []uint64{0, 1, 2, 3, q - 1, q, q + 1, 7 * q, 800 * q, 1<<63 - 1, 1 << 63, 1<<63 + 1, m - 256*q, m - 4*q - 1, m - 4*q, m - 4*q + 1, m - q - 1, m - q, m - q + 1, m - 2, m - 1, m}
}

func build(t *testing.T, c api.Config, usage []uint64) *Ledger {
	t.Helper()
	l, e := New(c, usage)
	if e != api.OK || l == nil {
		t.Fatalf("New(%+v, %d usages): %v %d", c, len(usage), l, e)
	}
	return l
}

// both builds a ledger and what it must be.
func both(t *testing.T, c api.Config, usage []uint64) (*Ledger, *plain) {
	t.Helper()
	return build(t, c, usage), plainOf(c, usage)
}

// same holds all that a ledger tells against what it must tell.
func same(t *testing.T, l *Ledger, p *plain) {
	t.Helper()
	if list := l.List(); !slices.Equal(list, p.own) {
		t.Fatalf("List: %v, not %v", list, p.own)
	}
	all := []int{}
	for a, want := range p.own {
		if x := l.Own(a); x != want {
			t.Fatalf("Own(%d): %d, not %d", a, x, want)
		}
		all = append(all, a)
	}
	for _, a := range outside(len(p.own)) {
		if x := l.Own(a); x != 0 {
			t.Fatalf("Own(%d), one of no account: %d", a, x)
		}
	}
	if x, want := l.Sum(all), p.sum(all); x != want {
		t.Fatalf("Sum of all: %d, not %d", x, want)
	}
}

func charges(t *testing.T, l *Ledger, account, nodes int) {
	t.Helper()
	if e := l.Charge(account, nodes); e != api.OK {
		t.Fatalf("Charge(%d, %d): %d", account, nodes, e)
	}
}

func drawnUsages(d *dice, n int) []uint64 {
	l := []uint64{}
	for range n {
		if d.below(3) == 0 {
			l = append(l, pick(d, usageEdges()))
			continue
		}
		l = append(l, d.word()>>d.below(64))
	}
	return l
}

func TestChapterExamples(t *testing.T) {
	l := build(t, example(), nil)
	if a, b := l.Open(), l.Open(); a != 0 || b != 1 {
		t.Errorf("Open: %d, %d", a, b)
	}
	charges(t, l, 1, 3)
	charges(t, l, 1, 4)
	if l.Own(1) != 7*q || l.Sum([]int{0, 1, 1}) != 14*q {
		t.Errorf("Own(1): %d, Sum(0 1 1): %d", l.Own(1), l.Sum([]int{0, 1, 1}))
	}
	for _, k := range []struct {
		account, nodes int
		want           api.Errno
	}{{2, 1, api.ErrLedgerNone}, {0, 5, api.ErrArg}, {0, -1, api.ErrArg}} {
		if e := l.Charge(k.account, k.nodes); e != k.want {
			t.Errorf("Charge(%d, %d): %d, not %d", k.account, k.nodes, e, k.want)
		}
	}
	if l.Own(9) != 0 {
		t.Errorf("Own(9): %d", l.Own(9))
	}
	if l.Fade(); l.Own(1) != 7<<31 {
		t.Errorf("faded: %d", l.Own(1))
	}
	jobs := []api.Job{
		{Account: 1, Nodes: 3, State: api.Killed, Start: 2, End: 7},
		{Account: 1, Nodes: 2, State: api.Running, Start: 5},
		{Account: 2, Nodes: 9, State: api.Pending},
	}
	if n := Raw(jobs, []int{1, 2}, 9); n != 23 {
		t.Errorf("Raw: %d", n)
	}
}

func TestErrorNumbers(t *testing.T) {
	if api.ErrArg != 1 || api.ErrLedgerNone != 120 {
		t.Errorf("%d %d", api.ErrArg, api.ErrLedgerNone)
	}
}

// refusedConfigs are configs by the error that they are refused with. (ErrConfigScale is told of no config within the ranges.)
func refusedConfigs() map[api.Errno][]api.Config {
	by := map[api.Errno][]api.Config{}
	out := func(change func(c *api.Config)) {
		c := example()
		change(&c)
		by[api.ErrConfigRange] = append(by[api.ErrConfigRange], c)
	}
	for _, wrong := range []int{math.MinInt, -1, api.MaxHalf + 1, math.MaxInt} {
		out(func(c *api.Config) { c.Nodes = wrong })
		out(func(c *api.Config) { c.Queue = wrong })
		out(func(c *api.Config) { c.Limit = wrong })
		out(func(c *api.Config) { c.Age = wrong })
		out(func(c *api.Config) { c.Fair = wrong })
		out(func(c *api.Config) { c.Size = wrong })
		out(func(c *api.Config) { c.Period = wrong })
		out(func(c *api.Config) { c.Half = wrong })
	}
	out(func(c *api.Config) { *c = api.Config{} })
	out(func(c *api.Config) { c.Nodes = 0 })
	out(func(c *api.Config) { c.Nodes = api.MaxNodes + 1 })
	out(func(c *api.Config) { c.Period = 0 })
	out(func(c *api.Config) { c.Period = api.MaxPeriod + 1 })
	out(func(c *api.Config) { c.Half = 0 })
	by[api.ErrConfigUsage] = []api.Config{with(4, 1, api.MaxHalf), with(2, 1, api.MaxHalf), with(256, api.MaxPeriod, api.MaxHalf)}
	one := example()
	one.Fair = 1
	by[api.ErrConfigError] = []api.Config{one}
	return by
}

func TestP121NewRefusesAConfig(t *testing.T) {
	for want, l := range refusedConfigs() {
		for _, c := range l {
			if e := config.Check(c); e != want {
				t.Fatalf("Check(%+v): %d, not %d", c, e, want)
			}
			// With 65 usages too: the config's error is the first.
			for _, n := range []int{0, 1, 64, 65, 1000} {
				if l, e := New(c, make([]uint64, n)); l != nil || e != want {
					t.Errorf("New(%+v, %d usages): %v %d, not %d", c, n, l, e, want)
				}
			}
		}
	}
}

func TestP121NewCountsUsages(t *testing.T) {
	for _, c := range configs() {
		for _, n := range []int{65, 66, 128, 320, 1 << 16} {
			if l, e := New(c, make([]uint64, n)); l != nil || e != api.ErrArg {
				t.Errorf("New with %d usages: %v %d", n, l, e)
			}
		}
		d := &dice{7}
		for _, n := range []int{0, 1, 2, 63, 64} {
			l, p := both(t, c, drawnUsages(d, n))
			same(t, l, p)
			if len(l.List()) != n {
				t.Errorf("%d accounts, not %d", len(l.List()), n)
			}
		}
	}
}

func TestP121NewTakesAnyUsages(t *testing.T) {
	for _, c := range configs() {
		l, p := both(t, c, usageEdges())
		same(t, l, p)
		for _, u := range usageEdges() {
			alike := slices.Repeat([]uint64{u}, 64)
			l, p := both(t, c, alike)
			same(t, l, p)
		}
	}
}

func TestP121NewOfNone(t *testing.T) {
	for _, none := range [][]uint64{nil, {}, make([]uint64, 0, 9)} {
		l, p := both(t, example(), none)
		same(t, l, p)
		if n := l.Open(); n != 0 || l.Own(0) != 0 {
			t.Errorf("the first of none: %d with %d", n, l.Own(0))
		}
	}
}

// busy does to a ledger all that may be done, and the same to what it must be.
func busy(t *testing.T, l *Ledger, p *plain) {
	t.Helper()
	for range 3 {
		if n, want := l.Open(), p.open(); n != want {
			t.Fatalf("Open: %d, not %d", n, want)
		}
		for a := range p.own {
			if e, want := l.Charge(a, p.nodes), p.charge(a, p.nodes); e != want {
				t.Fatalf("Charge(%d, %d): %d, not %d", a, p.nodes, e, want)
			}
		}
		l.Fade()
		p.fade()
	}
}

func TestP121HandedInStays(t *testing.T) {
	for n := range 13 {
		room := drawnUsages(&dice{uint64(n)}, 12)
		before := slices.Clone(room)
		l, p := both(t, example(), room[:n])
		busy(t, l, p)
		l.Clone().Open()
		if !slices.Equal(room, before) {
			t.Errorf("of %d handed in: %v, not %v", n, room, before)
		}
	}
}

func TestP121HandedInIsNotKept(t *testing.T) {
	for n := range 13 {
		room := drawnUsages(&dice{uint64(n)}, 12)
		l, p := both(t, example(), room[:n])
		for i := range room {
			room[i] = ^room[i]
		}
		same(t, l, p)
		busy(t, l, p)
		for i := range room {
			room[i] = 99
		}
		same(t, l, p)
	}
}

func TestP122Open(t *testing.T) {
	for _, n := range []int{0, 1, 5, 63, 64} {
		l, p := both(t, example(), drawnUsages(&dice{3}, n))
		for i := range 300 {
			if x, want := l.Open(), p.open(); x != want || x != n+i || l.Own(x) != 0 {
				t.Fatalf("Open: %d with %d, not %d", x, l.Own(x), n+i)
			}
			if i%37 == 0 {
				same(t, l, p)
			}
		}
		same(t, l, p)
		// The new ones are accounts as the others are.
		busy(t, l, p)
		same(t, l, p)
	}
}

func TestP122OpenIsWithoutUsage(t *testing.T) {
	l, p := both(t, example(), nil)
	for range 200 {
		n := l.Open()
		p.open()
		if l.Own(n) != 0 {
			t.Fatalf("account %d is opened with %d", n, l.Own(n))
		}
		charges(t, l, n, 4)
		p.charge(n, 4)
		// What a caller writes into an answer, and behind it, is not what a new account begins with.
		list := l.List()
		for i := range list[:cap(list)] {
			list[:cap(list)][i] = m
		}
	}
	same(t, l, p)
}

// nodeEdges are numbers of nodes: also those of which only the lower bits are right.
func nodeEdges(nodes int) []int {
	return []int{math.MinInt, math.MinInt + 1, -1 << 32, -nodes, -2, -1, 0, 1, nodes - 1, nodes, nodes + 1, nodes + 2, 256, 257, 1 << 32, 1<<32 + 1, 1 << 62, math.MaxInt - 1, math.MaxInt}
}

func TestP123ChargeAtEdges(t *testing.T) {
	for _, c := range configs() {
		for _, n := range []int{0, 1, 3, 64} {
			l, p := both(t, c, drawnUsages(&dice{uint64(n)}, n))
			for _, account := range append(outside(n), 0, n/2, n-1) {
				for _, nodes := range nodeEdges(c.Nodes) {
					if e, want := l.Charge(account, nodes), p.charge(account, nodes); e != want {
						t.Fatalf("%d accounts, %d nodes: Charge(%d, %d): %d, not %d", n, c.Nodes, account, nodes, e, want)
					}
					same(t, l, p)
				}
			}
		}
	}
}

func TestP123ChargeRefused(t *testing.T) {
	c := with(5, 100, 100)
	usage := []uint64{7, 0, m, 3 * q}
	l := build(t, c, usage)
	wrongNodes := []int{math.MinInt, -6, -5, -1, 6, 7, 256, 1<<32 + 1, math.MaxInt}
	for _, account := range outside(len(usage)) {
		// Both wrong: that there is no such account is told first.
		for _, nodes := range append([]int{0, 1, 5}, wrongNodes...) {
			if e := l.Charge(account, nodes); e != api.ErrLedgerNone {
				t.Errorf("Charge(%d, %d): %d", account, nodes, e)
			}
		}
	}
	for account := range usage {
		for _, nodes := range wrongNodes {
			if e := l.Charge(account, nodes); e != api.ErrArg {
				t.Errorf("Charge(%d, %d): %d", account, nodes, e)
			}
		}
	}
	same(t, l, plainOf(c, usage))
	// Not even what comes later is changed by what was refused.
	fresh := build(t, c, usage)
	for _, x := range []*Ledger{l, fresh} {
		x.Fade()
		charges(t, x, 1, 5)
		x.Open()
	}
	if !slices.Equal(l.List(), fresh.List()) {
		t.Errorf("%v, not %v", l.List(), fresh.List())
	}
}

func TestP123ChargeOfTheLastAndOneBehind(t *testing.T) {
	l := build(t, example(), nil)
	for n := range 70 {
		if e := l.Charge(n, 1); e != api.ErrLedgerNone {
			t.Fatalf("Charge(%d, 1), one behind the last: %d", n, e)
		}
		l.Open()
		charges(t, l, n, 1)
		if l.Own(n) != q {
			t.Fatalf("Own(%d): %d", n, l.Own(n))
		}
	}
}

func TestP123ChargeNearTheGreatest(t *testing.T) {
	for _, c := range []api.Config{example(), with(1, 1, 1), with(256, 100, 100)} {
		for nodes := 0; nodes <= c.Nodes; nodes++ {
			// The greatest usage that leaves room for them, and its neighbours.
			full := uint64(m) - uint64(nodes)*q
			for _, u := range []uint64{full - q, full - 1, full, full + min(1, m-full), m - 1, m} {
				l := build(t, c, []uint64{5, u, 6})
				charges(t, l, 1, nodes)
				p := plainOf(c, []uint64{5, u, 6})
				p.charge(1, nodes)
				same(t, l, p)
				if l.Own(1) != decay.Charge(u, nodes) {
					t.Fatalf("%d and %d nodes: %d", u, nodes, l.Own(1))
				}
			}
		}
	}
	l := build(t, example(), []uint64{m - 2*q})
	for i, want := range []uint64{m - q, m, m, m} {
		if charges(t, l, 0, 1); l.Own(0) != want {
			t.Errorf("behind charge %d: %d, not %d", i, l.Own(0), want)
		}
	}
	if l.Fade(); l.Own(0) != m/2 {
		t.Errorf("the greatest, faded: %d", l.Own(0))
	}
}

func TestP123FadeOfNone(t *testing.T) {
	for _, c := range configs() {
		l, p := both(t, c, nil)
		for range 5 {
			l.Fade()
		}
		same(t, l, p)
		if n := l.Open(); n != 0 || l.Own(0) != 0 {
			t.Errorf("opened: %d with %d", n, l.Own(0))
		}
	}
}

func TestP123FadeOfMany(t *testing.T) {
	for i, c := range configs() {
		l, p := both(t, c, drawnUsages(&dice{uint64(i)}, 64))
		for range 40 {
			l.Open()
			p.open()
		}
		for n := range 200 {
			for a := n % 3; a < 104; a += 7 {
				charges(t, l, a, n%(c.Nodes+1))
				p.charge(a, n%(c.Nodes+1))
			}
			before := l.List()
			l.Fade()
			p.fade()
			same(t, l, p)
			for a, u := range before {
				if l.Own(a) != decay.Fade(u, p.factor) {
					t.Fatalf("%d, faded: %d", u, l.Own(a))
				}
			}
		}
	}
}

func TestP123FadeByTheHalfLife(t *testing.T) {
	for _, k := range []struct {
		period, half int
		want         []uint64
	}{
		{100, 100, []uint64{1 << 39, 1 << 38, 1 << 37}},
		{200, 100, []uint64{1 << 38, 1 << 36, 1 << 34}},
		{1000, 100, []uint64{1 << 30, 1 << 20, 1 << 10, 1, 0, 0}},
		{6300, 100, []uint64{0, 0}},
		// Half a halving a period: two periods leave a half, but for what is rounded.
		{50, 100, []uint64{777472127993, 1<<39 - 1, 388736063996, 1<<38 - 1}},
	} {
		l := build(t, with(4, k.period, k.half), []uint64{0, 1 << 40, 1 << 40})
		for i, want := range k.want {
			l.Fade()
			if x := l.List(); !slices.Equal(x, []uint64{0, want, want}) {
				t.Errorf("period %d, half %d: behind %d Fades %v, not %d", k.period, k.half, i+1, x, want)
			}
		}
	}
}

func TestP123FadeOverManyPeriods(t *testing.T) {
	for _, c := range configs() {
		usage := []uint64{m, 1, 0, 800 * q, 1 << 63}
		l := build(t, c, usage)
		f, _ := decay.Factor(c.Period, c.Half)
		const periods = 70000
		for range periods {
			l.Fade()
		}
		for a, u := range usage {
			// decay.Fades goes through 65536 periods at most.
			if want := decay.Fades(decay.Fades(u, f, 60000), f, periods-60000); l.Own(a) != want {
				t.Errorf("period %d, half %d: of %d is left %d, not %d", c.Period, c.Half, u, l.Own(a), want)
			}
		}
	}
}

func TestP124OwnOfNoAccount(t *testing.T) {
	for _, n := range []int{0, 1, 2, 64} {
		l := build(t, example(), slices.Repeat([]uint64{m}, n))
		for _, a := range outside(n) {
			if l.Own(a) != 0 {
				t.Errorf("of %d accounts Own(%d): %d", n, a, l.Own(a))
			}
		}
		if len(l.List()) != n {
			t.Errorf("%d accounts, not %d", len(l.List()), n)
		}
	}
}

func TestP124Sum(t *testing.T) {
	for _, k := range []struct {
		usage    []uint64
		accounts []int
		want     uint64
	}{
		{nil, nil, 0},
		{nil, []int{0, 1, -1}, 0},
		{[]uint64{5, 7}, nil, 0},
		{[]uint64{5, 7}, []int{}, 0},
		{[]uint64{5, 7}, []int{0}, 5},
		{[]uint64{5, 7}, []int{0, 1}, 12},
		{[]uint64{5, 7}, []int{1, 0, 1, 1}, 26},
		{[]uint64{5, 7}, []int{-1, 2, math.MinInt, math.MaxInt, 1 << 32, 1<<32 + 1}, 0},
		{[]uint64{5, 7}, []int{-1, 1, 2, 0, math.MaxInt}, 12},
		{[]uint64{m - 1, 1}, []int{0, 1}, m},
		{[]uint64{m - 1, 1}, []int{1, 0}, m},
		{[]uint64{m - 2, 1}, []int{0, 1}, m - 1},
		{[]uint64{m - 1, 2}, []int{0, 1}, m},
		{[]uint64{m - 1, 2}, []int{1, 0}, m},
		{[]uint64{m, 1}, []int{0}, m},
		{[]uint64{m, 1}, []int{0, 1}, m},
		{[]uint64{m, 1}, []int{1, 0, 1}, m},
		{[]uint64{m, m}, []int{0, 1}, m},
		{[]uint64{m, m}, []int{0, 0, 1, 1, 0}, m},
		{[]uint64{m, 0}, []int{0, 1, 1, 9}, m},
		{[]uint64{1 << 63}, []int{0}, 1 << 63},
		{[]uint64{1 << 63}, []int{0, 0}, m},
		// Those that would come out small again, if they went round.
		{[]uint64{1 << 63}, []int{0, 0, 0}, m},
		{[]uint64{1<<63 - 1, 1}, []int{0, 0, 1}, m},
		{[]uint64{1<<63 - 1, 1}, []int{0, 0, 1, 1}, m},
		{[]uint64{m, 5}, []int{0, 1, 1}, m},
	} {
		if x := build(t, example(), k.usage).Sum(k.accounts); x != k.want {
			t.Errorf("of %v Sum(%v): %d, not %d", k.usage, k.accounts, x, k.want)
		}
	}
}

func TestP124SumOfDrawn(t *testing.T) {
	d := &dice{11}
	for range 3000 {
		n := d.below(9)
		l, p := both(t, example(), drawnUsages(d, n))
		accounts := []int{}
		for range d.below(12) {
			if d.below(4) == 0 {
				accounts = append(accounts, pick(d, outside(n)))
				continue
			}
			accounts = append(accounts, d.below(n+1))
		}
		room := slices.Grow(slices.Clone(accounts), 3)
		before := slices.Clone(room[:cap(room)])
		if x, want := l.Sum(room), p.sum(accounts); x != want {
			t.Fatalf("of %v Sum(%v): %d, not %d", p.own, accounts, x, want)
		}
		if !slices.Equal(room[:cap(room)], before) {
			t.Fatalf("handed in %v, now %v", before, room[:cap(room)])
		}
		same(t, l, p)
	}
}

// scribble writes over a list, behind its end too, and goes on behind it.
func scribble(l []uint64) {
	whole := l[:cap(l)]
	for i := range whole {
		whole[i] = 1234567 + uint64(i)
	}
	_ = append(l, 77, 78, 79)
}

func TestP124ListIsTheCallers(t *testing.T) {
	for _, n := range []int{0, 1, 2, 3, 5, 8, 64} {
		l, p := both(t, example(), drawnUsages(&dice{uint64(n)}, n))
		for i := range 9 {
			earlier, list := l.List(), l.List()
			scribble(list)
			if !slices.Equal(earlier, p.own) {
				t.Fatalf("an earlier answer is %v, not %v", earlier, p.own)
			}
			same(t, l, p)
			if i%3 == 0 {
				l.Open()
				p.open()
			}
			if e, want := l.Charge(n/2, 3), p.charge(n/2, 3); e != want {
				t.Fatalf("Charge: %d, not %d", e, want)
			}
			l.Fade()
			p.fade()
			same(t, l, p)
		}
		kept := l.List()
		was := slices.Clone(kept)
		busy(t, l, p)
		if !slices.Equal(kept, was) {
			t.Errorf("an answer changed from %v to %v", was, kept)
		}
	}
}

// wantRaw sums without wrapping, and wraps what came out.
func wantRaw(jobs []api.Job, accounts []int, now int) int {
	sum := new(big.Int)
	for _, j := range jobs {
		if !slices.Contains(accounts, j.Account) {
			continue
		}
		long := new(big.Int)
		if j.State == 3 || j.State == 4 || j.State == 5 {
			long.Sub(big.NewInt(int64(j.End)), big.NewInt(int64(j.Start)))
		}
		if j.State == 2 {
			long.Sub(big.NewInt(int64(now)), big.NewInt(int64(j.Start)))
		}
		sum.Add(sum, long.Mul(long, big.NewInt(int64(j.Nodes))))
	}
	round := new(big.Int).Lsh(big.NewInt(1), 64)
	return int(sum.Mod(sum, round).Uint64())
}

// states are all that a job can have, and some that there are not.
func states() []int {
	return []int{api.Pending, api.Running, api.Completed, api.Killed, api.Stopped, api.Dropped, 0, 7, 8, -1, -2, 1<<32 + 2, 1<<32 + 3, math.MinInt, math.MaxInt}
}

func TestP125RawOfEachState(t *testing.T) {
	want := map[int]int{api.Running: 3 * 80, api.Completed: 3 * 13, api.Killed: 3 * 13, api.Stopped: 3 * 13}
	for _, s := range states() {
		jobs := []api.Job{{Account: 1, Nodes: 3, Limit: 50, Submit: 7, State: s, Start: 20, End: 33, Set: []int{1, 2, 3}}}
		if n := Raw(jobs, []int{1}, 100); n != want[s] {
			t.Errorf("of the state %d: %d, not %d", s, n, want[s])
		}
	}
}

func TestP125RawCountsEachJobOnce(t *testing.T) {
	job := api.Job{Account: 1, Nodes: 2, State: api.Completed, Start: 1, End: 6}
	other := api.Job{Account: 2, Nodes: 5, State: api.Running, Start: 4}
	for _, k := range []struct {
		jobs     []api.Job
		accounts []int
		want     int
	}{
		{nil, nil, 0},
		{nil, []int{1, 2}, 0},
		{[]api.Job{job, other}, nil, 0},
		{[]api.Job{}, []int{}, 0},
		{[]api.Job{job, other}, []int{1}, 10},
		{[]api.Job{job, other}, []int{2}, 30},
		{[]api.Job{job, other}, []int{1, 2}, 40},
		{[]api.Job{job, other}, []int{2, 1, 2, 1, 1}, 40},
		{[]api.Job{job, other}, []int{0, 3, -1, 1 << 32, 1<<32 + 1}, 0},
		{[]api.Job{job, job, job}, []int{1}, 30},
		{[]api.Job{job, job, job}, []int{1, 1}, 30},
		{[]api.Job{{}, job}, []int{0, 1}, 10},
	} {
		if n := Raw(k.jobs, k.accounts, 10); n != k.want {
			t.Errorf("Raw(%v, %v, 10): %d, not %d", k.jobs, k.accounts, n, k.want)
		}
	}
}

func TestP125RawOfAnyAccounts(t *testing.T) {
	for _, a := range []int{math.MinInt, -1, 0, 63, 64, 65, 1 << 40, math.MaxInt} {
		jobs := []api.Job{{Account: a, Nodes: 2, State: api.Stopped, Start: 3, End: 10}, {Account: a ^ 1, Nodes: 1, State: api.Running}}
		if n := Raw(jobs, []int{a}, 50); n != 14 {
			t.Errorf("of the account %d: %d", a, n)
		}
		if n := Raw(jobs, []int{a ^ 1}, 50); n != 50 {
			t.Errorf("of the account %d: %d", a^1, n)
		}
	}
}

func TestP125RawWraps(t *testing.T) {
	for _, k := range []struct {
		name string
		jobs []api.Job
		now  int
		want int
	}{
		{"a product", []api.Job{{Nodes: 1 << 32, State: api.Killed, End: 1 << 32}}, 0, 0},
		{"a product below 0", []api.Job{{Nodes: 1 << 62, State: api.Killed, End: 2}}, 0, math.MinInt},
		{"a product by a negative", []api.Job{{Nodes: -3, State: api.Killed, End: 5}}, 0, -15},
		{"the least by -1", []api.Job{{Nodes: math.MinInt, State: api.Killed, Start: 1}}, 0, math.MinInt},
		{"an end ahead of its start", []api.Job{{Nodes: 2, State: api.Stopped, Start: 9, End: 4}}, 0, -10},
		{"a now ahead of a start", []api.Job{{Nodes: 2, State: api.Running, Start: 9}}, 4, -10},
		{"a difference of the end", []api.Job{{Nodes: 1, State: api.Completed, Start: math.MinInt, End: math.MaxInt}}, 0, -1},
		{"a difference of now", []api.Job{{Nodes: 1, State: api.Running, Start: math.MaxInt}}, math.MinInt, 1},
		{"a difference and a product", []api.Job{{Nodes: 3, State: api.Running, Start: math.MinInt}}, math.MaxInt, -3},
		{"a sum", []api.Job{{Nodes: 1, State: api.Killed, End: math.MaxInt}, {Nodes: 1, State: api.Running}}, 1, math.MinInt},
		{"a sum and back", []api.Job{{Nodes: 1, State: api.Killed, End: math.MaxInt}, {Nodes: 1, State: api.Running}, {Nodes: -1, State: api.Killed, End: 1}}, 1, math.MaxInt},
		{"nothing of what is pending", []api.Job{{Nodes: math.MaxInt, State: api.Pending, Start: math.MinInt, End: math.MaxInt}}, math.MaxInt, 0},
	} {
		if n := Raw(k.jobs, []int{0}, k.now); n != k.want || n != wantRaw(k.jobs, []int{0}, k.now) {
			t.Errorf("%s: %d, not %d", k.name, n, k.want)
		}
	}
}

// anyNumber is a small one, one at an edge, or any.
func anyNumber(d *dice) int {
	switch d.below(4) {
	case 0:
		return int(d.word())
	case 1:
		return pick(d, []int{math.MinInt, math.MinInt + 1, -1 << 62, -1 << 32, -1, 0, 1, 1 << 31, 1 << 32, 1 << 62, math.MaxInt - 1, math.MaxInt})
	}
	return d.below(300)
}

func anyState(d *dice) int {
	if d.below(9) == 0 {
		return pick(d, states())
	}
	return 1 + d.below(6)
}

func anyJobs(d *dice) []api.Job {
	jobs := []api.Job{}
	for range d.below(12) {
		jobs = append(jobs, api.Job{
			Account: d.below(8), Nodes: anyNumber(d), Limit: anyNumber(d), Submit: anyNumber(d),
			State: anyState(d), Start: anyNumber(d), End: anyNumber(d), Set: []int{d.below(9), d.below(9)},
		})
	}
	return jobs
}

// anyAccounts may stand there twice.
func anyAccounts(d *dice) []int {
	l := []int{}
	for range d.below(8) {
		l = append(l, d.below(9)-1)
	}
	return l
}

func TestP125RawOfDrawn(t *testing.T) {
	d := &dice{21}
	some := 0
	for range 20000 {
		jobs, accounts, now := anyJobs(d), anyAccounts(d), anyNumber(d)
		n := Raw(jobs, accounts, now)
		if want := wantRaw(jobs, accounts, now); n != want {
			t.Fatalf("Raw(%+v, %v, %d): %d, not %d", jobs, accounts, now, n, want)
		}
		if n != 0 {
			some++
		}
	}
	if some < 5000 {
		t.Errorf("only %d of these have used something", some)
	}
}

func sameJob(a, b api.Job) bool {
	return slices.Equal(a.Set[:cap(a.Set)], b.Set[:cap(b.Set)]) &&
		a.Account == b.Account && a.Nodes == b.Nodes && a.Limit == b.Limit && a.Submit == b.Submit && a.State == b.State && a.Start == b.Start && a.End == b.End
}

func TestP125HandedInStays(t *testing.T) {
	d := &dice{22}
	for range 500 {
		jobs, accounts := append(anyJobs(d), anyJobs(d)...), append(anyAccounts(d), anyAccounts(d)...)
		jobsWere, accountsWere := []api.Job{}, slices.Clone(accounts)
		for _, j := range jobs {
			j.Set = append(make([]int, 0, cap(j.Set)), j.Set...)
			jobsWere = append(jobsWere, j)
		}
		Raw(jobs[:len(jobs)/2], accounts[:len(accounts)/2], anyNumber(d))
		if !slices.EqualFunc(jobs, jobsWere, sameJob) || !slices.Equal(accounts, accountsWere) {
			t.Fatalf("handed in %v and %v, now %v and %v", jobsWere, accountsWere, jobs, accounts)
		}
	}
}

func TestP126Clone(t *testing.T) {
	for _, n := range []int{0, 1, 3, 64} {
		for _, c := range configs() {
			l, p := both(t, c, drawnUsages(&dice{uint64(n)}, n))
			busy(t, l, p)
			copied, r := l.Clone(), p.clone()
			same(t, copied, r)
			busy(t, copied, r)
			same(t, l, p)
			same(t, copied, r)
			busy(t, l, p)
			busy(t, l, p)
			same(t, l, p)
			same(t, copied, r)
		}
	}
}

// What one call does to one of the two is not seen at the other, whichever of them it is.
func TestP126CloneByEachCall(t *testing.T) {
	calls := []func(l *Ledger, p *plain){
		func(l *Ledger, p *plain) { l.Open(); p.open() },
		func(l *Ledger, p *plain) { l.Charge(0, 3); p.charge(0, 3) },
		func(l *Ledger, p *plain) { l.Charge(2, 4); p.charge(2, 4) },
		func(l *Ledger, p *plain) { l.Fade(); p.fade() },
		func(l *Ledger, _ *plain) { scribble(l.List()) },
	}
	for opened := range 9 {
		for _, first := range calls {
			for _, second := range calls {
				l, p := both(t, example(), []uint64{5 * q, 7, 9 * q})
				// So that there is spare room behind the accounts, now more, now less.
				for range opened {
					l.Open()
					p.open()
				}
				copied, r := l.Clone(), p.clone()
				first(l, p)
				same(t, copied, r)
				second(copied, r)
				same(t, l, p)
				same(t, copied, r)
				// An account that both open is charged at one of them alone.
				a, b := l.Open(), copied.Open()
				p.open()
				r.open()
				charges(t, l, a, 4)
				p.charge(a, 4)
				if copied.Own(b) != 0 {
					t.Fatalf("a clone's new account has %d", copied.Own(b))
				}
				same(t, l, p)
				same(t, copied, r)
			}
		}
	}
}

// step does one call, drawn, to a ledger and to what it must be.
func step(t *testing.T, d *dice, l *Ledger, p *plain) {
	t.Helper()
	switch k := d.below(10); {
	case k == 0:
		if n, want := l.Open(), p.open(); n != want {
			t.Fatalf("Open: %d, not %d", n, want)
		}
	case k == 1:
		l.Fade()
		p.fade()
	case k == 2:
		scribble(l.List())
	case k == 3:
		account, nodes := pick(d, append(outside(len(p.own)), 0)), pick(d, nodeEdges(p.nodes))
		if e, want := l.Charge(account, nodes), p.charge(account, nodes); e != want {
			t.Fatalf("Charge(%d, %d): %d, not %d", account, nodes, e, want)
		}
	default:
		account, nodes := d.below(len(p.own)+1), d.below(p.nodes+2)
		if e, want := l.Charge(account, nodes), p.charge(account, nodes); e != want {
			t.Fatalf("Charge(%d, %d): %d, not %d", account, nodes, e, want)
		}
	}
}

func TestP126ClonesOfClones(t *testing.T) {
	for i, c := range configs() {
		d := &dice{uint64(i) * 1000}
		l, p := both(t, c, drawnUsages(d, 4))
		ledgers, plains := []*Ledger{l}, []*plain{p}
		for range 400 {
			k := d.below(len(ledgers))
			if len(ledgers) < 12 && d.below(20) == 0 {
				ledgers, plains = append(ledgers, ledgers[k].Clone()), append(plains, plains[k].clone())
			}
			step(t, d, ledgers[k], plains[k])
			for j := range ledgers {
				same(t, ledgers[j], plains[j])
			}
		}
		if len(ledgers) < 5 {
			t.Errorf("only %d clones", len(ledgers))
		}
	}
}

func TestAnyCalls(t *testing.T) {
	for i, c := range configs() {
		for n := range 10 {
			d := &dice{uint64(i*100 + n)}
			l, p := both(t, c, drawnUsages(d, n*7))
			for range 300 {
				step(t, d, l, p)
				same(t, l, p)
			}
		}
	}
}

// charge is one of a script.
type charge struct{ account, nodes int }

// script is charges, a list for each period, behind which a Fade comes.
type script [][]charge

func drawnScript(d *dice, accounts, nodes int) script {
	s := script{}
	for range 1 + d.below(6) {
		period := []charge{}
		for range d.below(25) {
			period = append(period, charge{d.below(accounts), d.below(nodes + 1)})
		}
		s = append(s, period)
	}
	return s
}

// play goes through a script, and tells the usages ahead of each Fade and behind it.
func play(t *testing.T, c api.Config, usage []uint64, s script) [][]uint64 {
	t.Helper()
	l := build(t, c, usage)
	told := [][]uint64{}
	for _, period := range s {
		for _, x := range period {
			charges(t, l, x.account, x.nodes)
		}
		told = append(told, l.List())
		l.Fade()
		told = append(told, l.List())
	}
	return told
}

// each is a script whose periods are changed, each for itself.
func (s script) each(change func([]charge) []charge) script {
	l := script{}
	for _, period := range s {
		l = append(l, change(slices.Clone(period)))
	}
	return l
}

func shuffled(d *dice) func([]charge) []charge {
	return func(l []charge) []charge {
		for i := range l {
			j := i + d.below(len(l)-i)
			l[i], l[j] = l[j], l[i]
		}
		return l
	}
}

func equalTold(a, b [][]uint64) bool {
	return slices.EqualFunc(a, b, func(x, y []uint64) bool { return slices.Equal(x, y) })
}

func TestP127OrderDoesNotCount(t *testing.T) {
	for i, c := range configs() {
		d := &dice{uint64(i) << 20}
		for range 40 {
			n := 1 + d.below(8)
			usage, s := drawnUsages(d, n), drawnScript(d, n, c.Nodes)
			want := play(t, c, usage, s)
			backward := func(l []charge) []charge { slices.Reverse(l); return l }
			byAccount := func(l []charge) []charge {
				slices.SortFunc(l, func(a, b charge) int { return a.account - b.account })
				return l
			}
			for _, change := range []func([]charge) []charge{backward, byAccount, shuffled(d), shuffled(d)} {
				if got := play(t, c, usage, s.each(change)); !equalTold(got, want) {
					t.Fatalf("%+v from %v: %v, in another order %v", s, usage, want, got)
				}
			}
		}
	}
}

func TestP127AllOrdersOfAFew(t *testing.T) {
	// Near the greatest usage, where charges stand still.
	usage := []uint64{m - 3*q, m - 1, 0, 2}
	period := []charge{{0, 4}, {1, 1}, {0, 2}, {2, 3}, {0, 0}}
	want := play(t, example(), usage, script{period, {{0, 1}}})
	orders := 0
	var all func(at int)
	all = func(at int) {
		if at == len(period) {
			orders++
			if got := play(t, example(), usage, script{period, {{0, 1}}}); !equalTold(got, want) {
				t.Fatalf("%v: %v, not %v", period, got, want)
			}
			return
		}
		for i := at; i < len(period); i++ {
			period[at], period[i] = period[i], period[at]
			all(at + 1)
			period[at], period[i] = period[i], period[at]
		}
	}
	if all(0); orders != 120 {
		t.Errorf("%d orders", orders)
	}
}

func TestP127OthersDoNotCount(t *testing.T) {
	for i, c := range configs() {
		d := &dice{uint64(i) << 21}
		for range 40 {
			n := 2 + d.below(7)
			usage, s := drawnUsages(d, n), drawnScript(d, n, c.Nodes)
			want := play(t, c, usage, s)
			one := d.below(n)
			alone := s.each(func(l []charge) []charge {
				return slices.DeleteFunc(l, func(x charge) bool { return x.account != one })
			})
			more := s.each(func(l []charge) []charge {
				for range 5 {
					l = append(l, charge{(one + 1 + d.below(n-1)) % n, d.below(c.Nodes + 1)})
				}
				return shuffled(d)(l)
			})
			for _, other := range []script{alone, more} {
				others := drawnUsages(d, n)
				others[one] = usage[one]
				for k, list := range play(t, c, others, other) {
					if list[one] != want[k][one] {
						t.Fatalf("%+v: account %d has %d, and beside others %d", s, one, want[k][one], list[one])
					}
				}
			}
		}
	}
}

// notLess holds what the one that was charged more has against the other, and tells how often it has more.
func notLess(t *testing.T, less, more [][]uint64) int {
	t.Helper()
	greater := 0
	for k := range less {
		for a := range less[k] {
			if more[k][a] < less[k][a] {
				t.Fatalf("charged more, account %d has %d, and not %d", a, more[k][a], less[k][a])
			}
			if more[k][a] > less[k][a] {
				greater++
			}
		}
	}
	return greater
}

func TestP128OneChargeMore(t *testing.T) {
	greater := 0
	for i, c := range configs() {
		d := &dice{uint64(i) << 22}
		for range 8 {
			n := 1 + d.below(5)
			usage, s := drawnUsages(d, n), drawnScript(d, n, c.Nodes)
			less := play(t, c, usage, s)
			for period := range s {
				for at := 0; at <= len(s[period]); at++ {
					longer := slices.Clone(s)
					longer[period] = slices.Insert(slices.Clone(s[period]), at, charge{d.below(n), d.below(c.Nodes + 1)})
					greater += notLess(t, less, play(t, c, usage, longer))
				}
			}
		}
	}
	if greater < 1000 {
		t.Errorf("only %d usages are greater", greater)
	}
}

func TestP128ChargedMore(t *testing.T) {
	for i, c := range configs() {
		d := &dice{uint64(i) << 23}
		for range 60 {
			n := 1 + d.below(6)
			usage, s := drawnUsages(d, n), drawnScript(d, n, c.Nodes)
			// More nodes in some charges, more charges, and more at the beginning.
			fuller := s.each(func(l []charge) []charge {
				for j := range l {
					l[j].nodes += d.below(c.Nodes + 1 - l[j].nodes)
				}
				for range d.below(4) {
					l = append(l, charge{d.below(n), d.below(c.Nodes + 1)})
				}
				return shuffled(d)(l)
			})
			began := slices.Clone(usage)
			for a := range began {
				began[a] += min(m-began[a], uint64(d.below(1000)))
			}
			less := play(t, c, usage, s)
			notLess(t, less, play(t, c, usage, fuller))
			notLess(t, less, play(t, c, began, s))
			notLess(t, less, play(t, c, began, fuller))
		}
	}
}

func TestP128FadeMakesNothingGreater(t *testing.T) {
	for i, c := range configs() {
		d := &dice{uint64(i) << 24}
		for range 50 {
			l := build(t, c, drawnUsages(d, 64))
			for range 10 {
				before := l.List()
				l.Fade()
				for a, u := range l.List() {
					// The factor is below One always: so what there is becomes less.
					if u > before[a] || u == before[a] && u > 0 {
						t.Fatalf("period %d, half %d: %d, faded: %d", c.Period, c.Half, before[a], u)
					}
				}
			}
		}
	}
}

func TestP129RawOfTwoListsOfAccounts(t *testing.T) {
	d := &dice{31}
	for range 5000 {
		jobs, now := append(anyJobs(d), anyJobs(d)...), anyNumber(d)
		var one, two []int
		for a := -1; a < 9; a++ {
			// In one of them, in the other, or in none; there more than once.
			switch d.below(3) {
			case 0:
				one = append(one, slices.Repeat([]int{a}, 1+d.below(3))...)
			case 1:
				two = append(two, slices.Repeat([]int{a}, 1+d.below(3))...)
			}
		}
		sum := Raw(jobs, one, now) + Raw(jobs, two, now)
		if x, y := Raw(jobs, slices.Concat(one, two), now), Raw(jobs, slices.Concat(two, one), now); x != sum || y != sum {
			t.Fatalf("Raw(%+v, %v and %v, %d): %d and %d, not %d", jobs, one, two, now, x, y, sum)
		}
	}
}

func TestP129RawOfTwoListsOfJobs(t *testing.T) {
	d := &dice{32}
	for range 5000 {
		one, two, accounts, now := anyJobs(d), anyJobs(d), anyAccounts(d), anyNumber(d)
		sum := Raw(one, accounts, now) + Raw(two, accounts, now)
		if x, y := Raw(slices.Concat(one, two), accounts, now), Raw(slices.Concat(two, one), accounts, now); x != sum || y != sum {
			t.Fatalf("Raw(%+v and %+v, %v, %d): %d and %d, not %d", one, two, accounts, now, x, y, sum)
		}
	}
}

func TestP129RawFromNowOn(t *testing.T) {
	d := &dice{33}
	grew := 0
	for i := range 5000 {
		jobs, accounts, now := anyJobs(d), anyAccounts(d), anyNumber(d)
		if i%10 == 0 {
			// now + 1 goes round.
			now = math.MaxInt
		}
		nodes := 0
		for _, j := range jobs {
			if j.State == api.Running && slices.Contains(accounts, j.Account) {
				nodes += j.Nodes
			}
		}
		if n := Raw(jobs, accounts, now+1) - Raw(jobs, accounts, now); n != nodes {
			t.Fatalf("Raw(%+v, %v) from %d on: %d more, not %d", jobs, accounts, now, n, nodes)
		}
		if nodes != 0 {
			grew++
		}
	}
	if grew < 1000 {
		t.Errorf("only %d of these grow", grew)
	}
}

func TestP1210ChargedIsRaw(t *testing.T) {
	for i, c := range configs() {
		d := &dice{uint64(i) << 25}
		l := build(t, c, make([]uint64, 3))
		l.Open()
		// What faded ahead of the first charge was 0.
		l.Fade()
		ticks := make([]int, 4)
		for range 3000 {
			a, nodes := d.below(4), d.below(c.Nodes+1)
			charges(t, l, a, nodes)
			ticks[a] += nodes
			if want, fits := fixq.Of(ticks[a]); l.Own(a) != want || !fits {
				t.Fatalf("charged %d node-ticks: %d, not %d", ticks[a], l.Own(a), want)
			}
		}
	}
}

// The node-ticks of a job are what its account is charged, tick by tick.
func TestP1210ChargedAsRawTells(t *testing.T) {
	d := &dice{41}
	l := build(t, with(16, 100, 100), make([]uint64, 5))
	jobs := []api.Job{}
	for now := range 300 {
		if now%3 == 0 {
			jobs = append(jobs, api.Job{Account: d.below(5), Nodes: 1 + d.below(4), State: api.Running, Start: now})
		}
		for k := range jobs {
			if jobs[k].State == api.Running && d.below(20) == 0 {
				jobs[k].State, jobs[k].End = pick(d, []int{api.Completed, api.Killed, api.Stopped}), now
			}
		}
		for a := range 5 {
			if want, _ := fixq.Of(Raw(jobs, []int{a}, now)); l.Own(a) != want {
				t.Fatalf("at %d account %d has %d, not %d", now, a, l.Own(a), want)
			}
		}
		// From now to now + 1.
		for _, j := range jobs {
			if j.State == api.Running {
				charges(t, l, j.Account, j.Nodes)
			}
		}
	}
}

func TestP1210UpToTheGreatest(t *testing.T) {
	l := build(t, with(256, 100, 100), []uint64{0})
	const rounds = 1 << 24
	for range rounds - 1 {
		l.Charge(0, 256)
	}
	for _, k := range []struct{ nodes, ticks int }{{0, q - 256}, {254, q - 2}, {1, q - 1}, {0, q - 1}, {1, q}, {256, q + 256}} {
		charges(t, l, 0, k.nodes)
		// Of is right up to 2^32 - 1, and the greatest number behind that: so is a charge.
		if want, _ := fixq.Of(k.ticks); l.Own(0) != want {
			t.Errorf("charged %d node-ticks: %d, not %d", k.ticks, l.Own(0), want)
		}
	}
}

func TestR5AnswersAlike(t *testing.T) {
	for i, c := range configs() {
		d := &dice{uint64(i) << 26}
		usage := drawnUsages(d, 5)
		a, pa := both(t, c, usage)
		between, pb := both(t, example(), drawnUsages(d, 9))
		b, _ := both(t, c, usage)
		one, two := &dice{uint64(i)}, &dice{uint64(i)}
		p := pa.clone()
		for range 200 {
			step(t, one, a, pa)
			step(t, d, between, pb)
			step(t, two, b, p)
			if !slices.Equal(a.List(), b.List()) || !slices.Equal(a.List(), a.List()) {
				t.Fatalf("alike calls, but %v and %v", a.List(), b.List())
			}
		}
		same(t, between, pb)
	}
}

func FuzzCalls(f *testing.F) {
	f.Add(uint64(1), 4, 100, 100)
	f.Add(uint64(2), 256, 1, 1<<20)
	f.Fuzz(func(t *testing.T, seed uint64, nodes, period, half int) {
		c, d := with(nodes, period, half), &dice{seed}
		usage := drawnUsages(d, d.below(70))
		want := config.Check(c)
		if want == api.OK && len(usage) > 64 {
			want = api.ErrArg
		}
		l, e := New(c, usage)
		if e != want || (l == nil) != (want != api.OK) {
			t.Fatalf("New(%+v, %d usages): %v %d, not %d", c, len(usage), l, e, want)
		}
		if e != api.OK {
			return
		}
		p := plainOf(c, usage)
		for range 50 {
			step(t, d, l, p)
			same(t, l, p)
		}
		jobs, accounts, now := anyJobs(d), anyAccounts(d), anyNumber(d)
		if n, want := Raw(jobs, accounts, now), wantRaw(jobs, accounts, now); n != want {
			t.Fatalf("Raw(%+v, %v, %d): %d, not %d", jobs, accounts, now, n, want)
		}
	})
}

package ideal

import (
	"math"
	"math/big"
	"slices"
	"strconv"
	"strings"
	"sync"
	"testing"

	"backfill/api"
	"backfill/config"
	"backfill/decay"
	"backfill/ladder"
	"backfill/ledger"
	"backfill/prio"
	"backfill/share"
	"backfill/tree"
	"backfill/wide"
)

// The tests hold the package against math/big, by the chapter's words: no edge at 64 or 128 bits but those that it names, and the limits written as numbers.

const (
	q       = api.QOne
	one     = uint64(1) << 63
	m       = math.MaxUint64
	horizon = 1 << 40
)

func bigOf(n uint64) *big.Int { return new(big.Int).SetUint64(n) }

func whole(n int) *big.Int { return big.NewInt(int64(n)) }

func times(a, b *big.Int) *big.Int { return new(big.Int).Mul(a, b) }

func plus(a, b *big.Int) *big.Int { return new(big.Int).Add(a, b) }

func less(a, b *big.Int) *big.Int { return new(big.Int).Sub(a, b) }

func power2(n uint) *big.Int { return new(big.Int).Lsh(big.NewInt(1), n) }

func least(a, b *big.Int) *big.Int {
	if a.Cmp(b) < 0 {
		return a
	}
	return b
}

func most(a, b *big.Int) *big.Int {
	if a.Cmp(b) > 0 {
		return a
	}
	return b
}

func roundDown(a, b *big.Int) *big.Int { return new(big.Int).Div(a, b) }

// roundUp is of what is not below 0.
func roundUp(a, b *big.Int) *big.Int {
	quotient, rest := new(big.Int).DivMod(a, b, new(big.Int))
	if rest.Sign() > 0 {
		quotient.Add(quotient, big.NewInt(1))
	}
	return quotient
}

// in64 and in128 are the number, or the greatest one of so many bits.
func in64(n *big.Int) *big.Int { return least(n, bigOf(m)) }

func in128(n *big.Int) *big.Int { return least(n, less(power2(128), big.NewInt(1))) }

func numOf(n wide.Num) *big.Int { return plus(new(big.Int).Lsh(bigOf(n.Hi), 64), bigOf(n.Lo)) }

// plain is an Ideal by the chapter's words.
type plain struct {
	c      api.Config
	lo, hi []*big.Int
}

func plainOf(c api.Config) *plain {
	p := &plain{c: c}
	p.open()
	return p
}

func (p *plain) open() int {
	p.lo, p.hi = append(p.lo, new(big.Int)), append(p.hi, new(big.Int))
	return len(p.lo) - 1
}

func (p *plain) charge(account, nodes int) api.Errno {
	if account < 0 || account >= len(p.lo) || nodes < 0 || nodes > p.c.Nodes {
		return 160
	}
	more := times(whole(nodes), power2(64))
	p.lo[account], p.hi[account] = in128(plus(p.lo[account], more)), in128(plus(p.hi[account], more))
	return api.OK
}

// halvings is decay's e.
func halvings(c api.Config) *big.Int {
	return roundDown(times(whole(c.Period), power2(32)), whole(c.Half))
}

func (p *plain) fade() {
	first, second := ladder.Bounds(halvings(p.c).Uint64())
	for n := range p.lo {
		p.lo[n] = roundDown(times(p.lo[n], bigOf(first)), power2(63))
		p.hi[n] = roundUp(times(p.hi[n], bigOf(second)), power2(63))
	}
}

func (p *plain) clone() *plain {
	// No number is ever written over.
	return &plain{p.c, slices.Clone(p.lo), slices.Clone(p.hi)}
}

func (p *plain) priority(l []api.Account, now int, j api.Job) (lo, hi, den *big.Int) {
	none := new(big.Int)
	if _, e := tree.Load(l); e != api.OK || len(l) != len(p.lo) || j.Account < 0 || j.Account >= len(l) {
		return none, none, none
	}
	if now < j.Submit || now > 1<<40 || j.Submit < 0 || j.Nodes < 1 || j.Nodes > p.c.Nodes {
		return none, none, none
	}
	sure := plus(times(whole(p.c.Age), whole(now-j.Submit)), times(whole(p.c.Size), whole(j.Nodes)))
	sure = times(sure, power2(63))
	first, second := p.kin(l).factor(j.Account)
	fair := whole(p.c.Fair)
	return plus(sure, times(fair, bigOf(first))), plus(sure, times(fair, bigOf(second))), power2(63)
}

// plainKin is the accounts of a list, of which each number is looked for in the list whenever it is asked for; lo and hi have 32 bits behind the point.
type plainKin struct {
	accounts []api.Account
	floor    *big.Int
	lo, hi   []*big.Int
}

func (p *plain) kin(l []api.Account) plainKin {
	k := plainKin{accounts: l, floor: times(times(whole(p.c.Nodes), whole(p.c.Period)), power2(32))}
	for n := range p.lo {
		k.lo = append(k.lo, in64(roundDown(p.lo[n], power2(32))))
		k.hi = append(k.hi, in64(roundUp(p.hi[n], power2(32))))
	}
	return k
}

func (k plainKin) sum(own []*big.Int, n int) *big.Int {
	sum := own[n]
	for kid, a := range k.accounts {
		if kid > 0 && a.Parent == n {
			sum = in64(plus(sum, k.sum(own, kid)))
		}
	}
	return sum
}

func (k plainKin) used(n int) (lo, hi *big.Int) {
	wlo, whi := most(k.sum(k.lo, 0), k.floor), most(k.sum(k.hi, 0), k.floor)
	lo = roundDown(times(k.sum(k.lo, n), power2(63)), whi)
	hi = least(roundUp(times(k.sum(k.hi, n), power2(63)), wlo), power2(63))
	return lo, hi
}

func (k plainKin) together(parent int) *big.Int {
	sum := new(big.Int)
	for n, a := range k.accounts {
		if n > 0 && a.Parent == parent {
			sum.Add(sum, whole(a.Shares))
		}
	}
	return sum
}

func (k plainKin) effective(n int) (lo, hi *big.Int) {
	lo, hi = k.used(n)
	if n == 0 {
		return lo, hi
	}
	parent := k.accounts[n].Parent
	parentLo, parentHi := k.effective(parent)
	shares, all, none := whole(k.accounts[n].Shares), k.together(parent), new(big.Int)
	lo = plus(lo, roundDown(times(most(less(parentLo, lo), none), shares), all))
	hi = plus(hi, roundUp(times(most(less(parentHi, hi), none), shares), all))
	return lo, hi
}

func (k plainKin) share(n int) (num, den *big.Int) {
	if n == 0 {
		return big.NewInt(1), big.NewInt(1)
	}
	parent := k.accounts[n].Parent
	num, den = k.share(parent)
	return times(num, whole(k.accounts[n].Shares)), times(den, k.together(parent))
}

func (k plainKin) powers(n int) (lo, hi uint64) {
	num, den := k.share(n)
	if times(num, big.NewInt(4096)).Cmp(den) < 0 {
		num, den = big.NewInt(1), big.NewInt(4096)
	}
	effectiveLo, effectiveHi := k.effective(n)
	by := times(num, power2(31))
	return in64(roundDown(times(effectiveLo, den), by)).Uint64(), in64(roundUp(times(effectiveHi, den), by)).Uint64()
}

func (k plainKin) factor(n int) (first, second uint64) {
	lo, hi := k.powers(n)
	first, _ = ladder.Bounds(hi)
	_, second = ladder.Bounds(lo)
	return first, second
}

// mixed goes through numbers without an order, always the same ones.
func mixed(seed uint64) uint64 {
	seed += 0x9e3779b97f4a7c15
	seed = (seed ^ seed>>30) * 0xbf58476d1ce4e5b9
	seed = (seed ^ seed>>27) * 0x94d049bb133111eb
	return seed ^ seed>>31
}

type dice struct{ seed uint64 }

func (d *dice) word() uint64 {
	d.seed++
	return mixed(d.seed)
}

func (d *dice) below(n int) int { return int(d.word() % uint64(n)) }

func (d *dice) from(least, most int) int { return least + d.below(most-least+1) }

// num is of any size.
func (d *dice) num() wide.Num { return wide.Shr(wide.Num{Hi: d.word(), Lo: d.word()}, d.below(129)) }

func pick[T any](d *dice, l []T) T { return l[d.below(len(l))] }

// example is the chapter's config.
func example() api.Config {
	return api.Config{Nodes: 4, Queue: 8, Limit: 10, Age: 1, Fair: 1000, Size: 0, Period: 100, Half: 100}
}

func with(nodes, period, half int) api.Config {
	return api.Config{Nodes: nodes, Queue: 128, Limit: 1 << 20, Age: 3, Fair: 1 << 20, Size: 5, Period: period, Half: half}
}

// configs that may be: the smallest and the greatest machine, half-lives shorter than a period, as long, longer, so short that a period leaves nothing, and so long that it leaves nearly all.
func configs() []api.Config {
	fairless := example()
	fairless.Fair, fairless.Size = 0, 9
	greatest := api.Config{Nodes: 256, Queue: 128, Limit: 1 << 20, Age: 1 << 20, Fair: 1 << 20, Size: 1 << 20, Period: 1 << 20, Half: 1 << 22}
	slow := with(1, 1<<20, 1<<30)
	slow.Age = 1 << 20
	return []api.Config{
		example(), fairless, greatest, slow,
		{Nodes: 1, Queue: 1, Limit: 1, Age: 1, Fair: 0, Size: 0, Period: 1, Half: 1},
		{Nodes: 3, Queue: 5, Limit: 7, Age: 3, Fair: 9999, Size: 1, Period: 77, Half: 50},
		with(2, 3, 2), with(5, 100, 101), with(7, 101, 100), with(64, 1000, 7), with(255, 700, 1000),
		with(4, 6200, 100), with(4, 6299, 100), with(4, 6300, 100), with(256, 1<<20, 1), with(3, 6301, 100),
	}
}

// drawnConfig is one that config.Check takes.
func drawnConfig(d *dice) api.Config {
	for {
		c := api.Config{
			Nodes: d.from(1, 1<<d.below(9)), Queue: d.from(1, 128), Limit: d.from(1, 1<<d.below(21)),
			Age: d.from(1, 1<<d.below(21)), Fair: d.from(0, 1<<d.below(21)), Size: d.from(0, 1<<d.below(21)),
			Period: d.from(1, 1<<d.below(21)), Half: d.from(1, 1<<d.below(31)),
		}
		if config.Check(c) == api.OK {
			return c
		}
	}
}

func aRoot() api.Account { return api.Account{Name: "root", Parent: -1, Shares: 1} }

// listOf is the root and others, each by its parent and its shares.
func listOf(rows ...[2]int) []api.Account {
	l := []api.Account{aRoot()}
	for i, r := range rows {
		l = append(l, api.Account{Name: "x" + strconv.Itoa(i), Parent: r[0], Shares: r[1]})
	}
	return l
}

// alone is the chapter's tree: one account, a, below the root.
func alone() []api.Account { return listOf([2]int{0, 3}) }

// flat is the root and so many accounts below it.
func flat(count int) []api.Account {
	rows := make([][2]int, count)
	for i := range rows {
		rows[i] = [2]int{0, 1 + i%7}
	}
	return listOf(rows...)
}

func deepOf(l []api.Account, n int) int {
	deep := 0
	for ; n != 0; n = l[n].Parent {
		deep++
	}
	return deep
}

// drawnTree is a tree of so many accounts, in which a parent may stand ahead of its child or behind it.
func drawnTree(d *dice, count int) []api.Account {
	l := []api.Account{aRoot()}
	for len(l) < count {
		parent := d.below(len(l))
		if d.below(3) == 0 {
			parent = len(l) - 1
		}
		if deepOf(l, parent) < 4 {
			l = append(l, api.Account{Name: "n" + strconv.Itoa(len(l)), Parent: parent, Shares: drawnShares(d), Closed: d.below(9) == 0, Usage: d.word()})
		}
	}
	return moved(d, l)
}

// moved is the same tree with its accounts (but the root) in another order.
func moved(d *dice, l []api.Account) []api.Account {
	to := make([]int, len(l))
	for n := range to {
		to[n] = n
	}
	for n := len(to) - 1; n > 1; n-- {
		k := d.from(1, n)
		to[n], to[k] = to[k], to[n]
	}
	out := make([]api.Account, len(l))
	for n, a := range l {
		if n > 0 {
			a.Parent = to[a.Parent]
		}
		out[to[n]] = a
	}
	return out
}

func drawnShares(d *dice) int {
	switch d.below(4) {
	case 0:
		return pick(d, []int{1, 1, 2, 3, 4095, 4096, 4096})
	case 1:
		return d.from(1, 8)
	}
	return d.from(1, 4096)
}

// drawnJob is one that can be pending, and its clock.
func drawnJob(d *dice, c api.Config, accounts int) (int, api.Job) {
	now := pick(d, []int{0, 1, 10, 100000, horizon - 1, horizon, d.below(horizon)})
	submit := pick(d, []int{0, now, now / 2, d.below(now + 1)})
	nodes := pick(d, []int{1, c.Nodes, d.from(1, c.Nodes)})
	return now, api.Job{Account: d.below(accounts), Nodes: nodes, Submit: submit, Limit: d.below(100), State: d.below(8), Start: d.below(9)}
}

func build(t *testing.T, c api.Config) *Ideal {
	t.Helper()
	i, e := New(c)
	if e != api.OK || i == nil {
		t.Fatalf("New(%+v): %v %d", c, i, e)
	}
	return i
}

// both builds an Ideal of so many accounts, and what it must be.
func both(t *testing.T, c api.Config, accounts int) (*Ideal, *plain) {
	t.Helper()
	i, p := build(t, c), plainOf(c)
	for n := 1; n < accounts; n++ {
		opens(t, i, p)
	}
	return i, p
}

func opens(t *testing.T, i *Ideal, p *plain) {
	t.Helper()
	if n, want := i.Open(), p.open(); n != want {
		t.Fatalf("Open: %d, not %d", n, want)
	}
}

func charges(t *testing.T, i *Ideal, p *plain, account, nodes int) {
	t.Helper()
	if e, want := i.Charge(account, nodes), p.charge(account, nodes); e != want {
		t.Fatalf("Charge(%d, %d): %d, not %d", account, nodes, e, want)
	}
}

func fades(i *Ideal, p *plain) {
	i.Fade()
	p.fade()
}

// set lets an account have any bounds.
func set(i *Ideal, p *plain, account int, lo, hi wide.Num) {
	i.usages[account].lo, i.usages[account].hi = lo, hi
	p.lo[account], p.hi[account] = numOf(lo), numOf(hi)
}

// same holds what is kept against what it must be.
func same(t *testing.T, i *Ideal, p *plain) {
	t.Helper()
	if len(i.usages) != len(p.lo) {
		t.Fatalf("%d accounts, not %d", len(i.usages), len(p.lo))
	}
	for n, u := range i.usages {
		if numOf(u.lo).Cmp(p.lo[n]) != 0 || numOf(u.hi).Cmp(p.hi[n]) != 0 {
			t.Fatalf("account %d has %v and %v, not %s and %s", n, u.lo, u.hi, p.lo[n], p.hi[n])
		}
		if wide.Cmp(u.lo, u.hi) > 0 {
			t.Fatalf("account %d has %v, above %v", n, u.lo, u.hi)
		}
	}
}

// tells holds Priority against what it must answer.
func tells(t *testing.T, i *Ideal, p *plain, l []api.Account, now int, j api.Job) (lo, hi wide.Num) {
	t.Helper()
	lo, hi, den := i.Priority(l, now, j)
	wantLo, wantHi, wantDen := p.priority(l, now, j)
	if numOf(lo).Cmp(wantLo) != 0 || numOf(hi).Cmp(wantHi) != 0 || numOf(den).Cmp(wantDen) != 0 {
		t.Fatalf("%+v: Priority(%+v, %d, %+v): %v, %v, %v, not %s, %s, %s", p.c, l, now, j, lo, hi, den, wantLo, wantHi, wantDen)
	}
	if wide.Cmp(lo, hi) > 0 {
		t.Fatalf("%+v: Priority(%+v, %d, %+v): %v is above %v", p.c, l, now, j, lo, hi)
	}
	return lo, hi
}

// nothing holds it that three zero numbers are told.
func nothing(t *testing.T, i *Ideal, l []api.Account, now int, j api.Job) {
	t.Helper()
	if lo, hi, den := i.Priority(l, now, j); lo != (wide.Num{}) || hi != (wide.Num{}) || den != (wide.Num{}) {
		t.Fatalf("Priority(%+v, %d, %+v): %v, %v, %v", l, now, j, lo, hi, den)
	}
}

// something holds it that a priority is told, as it must be.
func something(t *testing.T, i *Ideal, p *plain, l []api.Account, now int, j api.Job) {
	t.Helper()
	tells(t, i, p, l, now, j)
	if _, _, den := i.Priority(l, now, j); den != wide.Of(one) {
		t.Fatalf("Priority(%+v, %d, %+v): %v", l, now, j, den)
	}
}

func TestErrorNumber(t *testing.T) {
	if api.ErrIdealArg != 160 {
		t.Error(api.ErrIdealArg)
	}
}

func TestChapterExamples(t *testing.T) {
	i, p := both(t, example(), 2)
	l, j := alone(), api.Job{Account: 1, Nodes: 2, Submit: 3}
	want := wide.Mul(7+1000, one)
	if lo, hi, den := i.Priority(l, 10, j); lo != want || hi != want || den != wide.Of(one) {
		t.Error(lo, hi, den)
	}
	for _, k := range [][2]int{{1, 400}, {1, 5}, {2, 1}} {
		if e := i.Charge(k[0], k[1]); e != api.ErrIdealArg {
			t.Error(k, e)
		}
	}
	for range 100 {
		charges(t, i, p, 1, 4)
	}
	fades(i, p)
	same(t, i, p)
	hi := roundUp(times(times(big.NewInt(400), power2(64)), plus(power2(62), big.NewInt(81))), power2(63))
	if u := i.usages[1]; u.lo != (wide.Num{Hi: 200}) || numOf(u.hi).Cmp(hi) != 0 || u.hi != (wide.Num{Hi: 200, Lo: 64800}) {
		t.Error(u)
	}
	// U is 1/2, and of the his 1 / (400 * 2^32) more, rounded up; with a share of 1 that is a power of 2^31, and of the his 1 more.
	told, above := tells(t, i, p, l, 10, j)
	sure := wide.Mul(7, one)
	if lo, _ := wide.Add(sure, wide.Mul(1000, ladder.Half(1<<31+1))); told != lo {
		t.Error(told, lo)
	}
	if hi, _ := wide.Add(sure, wide.Mul(1000, 6521908912666391106+81)); above != hi {
		t.Error(above, hi)
	}
	for _, n := range []wide.Num{told, above} {
		tenfold, _ := wide.Times(n, 10)
		if about := wide.Shr(tenfold, 63); about != wide.Of(7141) {
			t.Error("about 7 + 707.1:", about)
		}
	}
}

// refusedConfigs are configs that config.Check refuses, by its error. (None that it can be handed has ErrConfigScale.)
func refusedConfigs() map[api.Errno][]api.Config {
	other := func(change func(c *api.Config)) api.Config {
		c := example()
		change(&c)
		return c
	}
	by := map[api.Errno][]api.Config{
		api.ErrConfigRange: {
			{},
			other(func(c *api.Config) { c.Nodes = 257 }),
			other(func(c *api.Config) { c.Queue = 129 }),
			other(func(c *api.Config) { c.Limit = 1<<20 + 1 }),
			other(func(c *api.Config) { c.Age = 1<<20 + 1 }),
			other(func(c *api.Config) { c.Age = 0 }),
			other(func(c *api.Config) { c.Fair = 1<<20 + 1 }),
			other(func(c *api.Config) { c.Size = 1<<20 + 1 }),
			other(func(c *api.Config) { c.Period = 1<<20 + 1 }),
			other(func(c *api.Config) { c.Half = 1<<30 + 1 }),
			other(func(c *api.Config) { c.Nodes = 0 }),
			other(func(c *api.Config) { c.Period = 0 }),
			other(func(c *api.Config) { c.Half = 0 }),
		},
		api.ErrConfigUsage: {
			other(func(c *api.Config) { c.Period, c.Half = 1, 1<<30 }),
			other(func(c *api.Config) { c.Nodes, c.Period, c.Half = 256, 1<<20, 1<<30 }),
		},
		api.ErrConfigError: {
			other(func(c *api.Config) { c.Fair = 1 }),
			other(func(c *api.Config) { c.Fair, c.Age, c.Queue, c.Limit = 1, 1, 1, 1 }),
		},
	}
	for _, wrong := range []int{math.MinInt, -1, math.MaxInt} {
		by[api.ErrConfigRange] = append(by[api.ErrConfigRange],
			other(func(c *api.Config) { c.Nodes = wrong }),
			other(func(c *api.Config) { c.Queue = wrong }),
			other(func(c *api.Config) { c.Limit = wrong }),
			other(func(c *api.Config) { c.Age = wrong }),
			other(func(c *api.Config) { c.Fair = wrong }),
			other(func(c *api.Config) { c.Size = wrong }),
			other(func(c *api.Config) { c.Period = wrong }),
			other(func(c *api.Config) { c.Half = wrong }),
		)
	}
	return by
}

func TestP161NewRefusesAConfig(t *testing.T) {
	for want, cs := range refusedConfigs() {
		for _, c := range cs {
			if e := config.Check(c); e != want {
				t.Fatalf("%+v: %d, not %d", c, e, want)
			}
			if i, e := New(c); i != nil || e != want {
				t.Errorf("New(%+v): %v %d, not %d", c, i, e, want)
			}
		}
	}
}

func TestP161NewHasTheRootAlone(t *testing.T) {
	d := &dice{1}
	for n := range 500 {
		c := drawnConfig(d)
		if n < len(configs()) {
			c = configs()[n]
		}
		i, p := both(t, c, 1)
		same(t, i, p)
		if len(i.usages) != 1 || i.usages[0] != (usage{}) {
			t.Fatalf("%+v: %v", c, i.usages)
		}
		// The root is one that may be charged, and one whose priority is told; no other one is.
		j := api.Job{Nodes: 1}
		lo, hi, den := i.Priority([]api.Account{aRoot()}, 0, j)
		if want := wide.Mul(uint64(c.Fair+c.Size), one); lo != want || hi != want || den != wide.Of(one) {
			t.Fatalf("%+v: %v %v %v", c, lo, hi, den)
		}
		nothing(t, i, alone(), 0, j)
		nothing(t, i, nil, 0, j)
		if e := i.Charge(1, 0); e != api.ErrIdealArg {
			t.Fatalf("%+v: %d", c, e)
		}
		charges(t, i, p, 0, c.Nodes)
		same(t, i, p)
	}
}

func TestP162Open(t *testing.T) {
	for _, c := range configs() {
		i, p := both(t, c, 1)
		for n := 1; n < 200; n++ {
			if e := i.Charge(n, 1); e != api.ErrIdealArg {
				t.Fatalf("Charge(%d, 1), one behind the last: %d", n, e)
			}
			if got := i.Open(); got != n {
				t.Fatalf("Open: %d, not %d", got, n)
			}
			p.open()
			// What others have does not reach a new one, nor what was charged and faded ahead of it.
			if i.usages[n] != (usage{}) {
				t.Fatalf("%d has %v", n, i.usages[n])
			}
			charges(t, i, p, n, c.Nodes)
			if n%5 == 0 {
				fades(i, p)
			}
			if n%20 == 0 {
				same(t, i, p)
			}
		}
	}
}

// With more accounts than a tree has there is no list for them: nothing is told, and all else goes on.
func TestP162OpenBeyondATree(t *testing.T) {
	i, p := both(t, example(), 63)
	j := api.Job{Account: 1, Nodes: 1}
	something(t, i, p, flat(62), 5, j)
	nothing(t, i, flat(63), 5, j)
	opens(t, i, p)
	something(t, i, p, flat(63), 5, j)
	nothing(t, i, flat(62), 5, j)
	opens(t, i, p)
	nothing(t, i, flat(64), 5, j)
	nothing(t, i, flat(63), 5, j)
	charges(t, i, p, 64, 4)
	fades(i, p)
	same(t, i, p)
}

// outside are numbers of no account, if there are n: also those of which only the lower bits are one's.
func outside(n int) []int {
	return []int{math.MinInt, math.MinInt + 1, -1 << 32, -n - 1, -n, -2, -1, n, n + 1, n + 64, 1 << 31, 1 << 32, 1<<32 + 1, math.MaxInt - 1, math.MaxInt}
}

func TestP163ChargeAtEdges(t *testing.T) {
	for _, c := range configs() {
		for _, n := range []int{1, 2, 5} {
			i, p := both(t, c, n)
			for _, account := range append(outside(n), 0, n/2, n-1) {
				for _, nodes := range []int{math.MinInt, -1 << 32, -c.Nodes, -1, 0, 1, c.Nodes - 1, c.Nodes, c.Nodes + 1, 256, 257, 1 << 32, 1<<32 + 1, math.MaxInt} {
					charges(t, i, p, account, nodes)
					same(t, i, p)
				}
			}
		}
	}
}

// What P16.3 names, one at a time out of its range.
func TestP163ChargeRefused(t *testing.T) {
	i := build(t, example())
	i.Open()
	i.Charge(1, 3)
	before := slices.Clone(i.usages)
	for _, k := range []struct {
		account, nodes int
		want           api.Errno
	}{
		{-1, 1, 160}, {2, 1, 160}, {2, 0, 160}, {math.MaxInt, 4, 160},
		{0, -1, 160}, {1, -1, 160}, {0, 5, 160}, {1, 5, 160}, {1, 400, 160}, {-1, -1, 160}, {2, 5, 160},
		{0, 0, 0}, {1, 0, 0},
	} {
		if e := i.Charge(k.account, k.nodes); e != k.want {
			t.Errorf("%+v: %d", k, e)
		}
		if !slices.Equal(i.usages, before) {
			t.Fatalf("%+v: %v, not %v", k, i.usages, before)
		}
	}
	// Not even what comes later is changed by what was refused.
	fresh := build(t, example())
	fresh.Open()
	fresh.Charge(1, 3)
	for _, x := range []*Ideal{i, fresh} {
		x.Fade()
		x.Charge(0, 1)
		x.Charge(1, 4)
		x.Open()
	}
	if !slices.Equal(i.usages, fresh.usages) {
		t.Errorf("%v, not %v", i.usages, fresh.usages)
	}
	if i.usages[0].lo != (wide.Num{Hi: 1}) || i.usages[1].lo != (wide.Num{Hi: 5, Lo: 1 << 63}) {
		t.Error(i.usages)
	}
}

// Both bounds are charged alike, those of one account alone.
func TestP163ChargeAddsNodes(t *testing.T) {
	i, p := both(t, with(256, 100, 100), 3)
	set(i, p, 1, wide.Num{Hi: 5, Lo: 7}, wide.Num{Hi: 6, Lo: m})
	for nodes := range 257 {
		before := slices.Clone(i.usages)
		charges(t, i, p, 1, nodes)
		same(t, i, p)
		if u := i.usages[1]; u.lo != (wide.Num{Hi: before[1].lo.Hi + uint64(nodes), Lo: 7}) || u.hi != (wide.Num{Hi: before[1].hi.Hi + uint64(nodes), Lo: m}) {
			t.Fatal(nodes, before[1], u)
		}
		if i.usages[0] != before[0] || i.usages[2] != before[2] {
			t.Fatal("charged are others")
		}
	}
}

func TestP163ChargeThatDoesNotFit(t *testing.T) {
	c := with(256, 100, 100)
	greatest := wide.Num{Hi: m, Lo: m}
	for _, nodes := range []int{0, 1, 2, 255, 256} {
		// The greatest usage that leaves room for them, and its neighbours.
		full := wide.Num{Hi: m - uint64(nodes), Lo: m}
		beside := []wide.Num{{}, {Hi: full.Hi - 1, Lo: m}, {Hi: full.Hi, Lo: 0}, {Hi: full.Hi, Lo: m - 1}, full, greatest}
		if nodes > 0 {
			beside = append(beside, wide.Num{Hi: full.Hi + 1, Lo: 0}, wide.Num{Hi: m, Lo: 0}, wide.Num{Hi: m, Lo: m - 1})
		}
		for _, lo := range beside {
			for _, hi := range beside {
				if wide.Cmp(lo, hi) > 0 {
					continue
				}
				i, p := both(t, c, 2)
				set(i, p, 1, lo, hi)
				charges(t, i, p, 1, nodes)
				same(t, i, p)
			}
		}
	}
	i, p := both(t, c, 1)
	set(i, p, 0, wide.Num{Hi: m - 1}, wide.Num{Hi: m, Lo: 1})
	for k, want := range []bounds{
		{wide.Num{Hi: m}, greatest},
		{greatest, greatest},
		{greatest, greatest},
	} {
		if charges(t, i, p, 0, 1); i.usages[0].bounds != want {
			t.Errorf("behind charge %d: %v", k, i.usages[0])
		}
	}
}

// fadeEdges are bounds of which the products with a factor divide and of which they don't.
func fadeEdges() []wide.Num {
	l := []wide.Num{}
	for _, hi := range []uint64{0, 1, 2, 3, 400, 1 << 31, 1 << 39, 1<<63 - 1, 1 << 63, m - 1, m} {
		for _, lo := range []uint64{0, 1, 2, 3, 1<<62 + 1, 1<<63 - 1, 1 << 63, 1<<63 + 1, m - 1, m} {
			l = append(l, wide.Num{Hi: hi, Lo: lo})
		}
	}
	return l
}

func TestP164Fade(t *testing.T) {
	for _, c := range configs() {
		for _, lo := range fadeEdges() {
			for _, hi := range []wide.Num{lo, {Hi: lo.Hi, Lo: m}, {Hi: m, Lo: m}} {
				i, p := both(t, c, 2)
				set(i, p, 1, lo, hi)
				fades(i, p)
				same(t, i, p)
				if wide.Cmp(i.usages[1].lo, lo) > 0 || wide.Cmp(i.usages[1].hi, hi) > 0 {
					t.Fatalf("%v and %v, faded: %v", lo, hi, i.usages[1])
				}
				if i.usages[0] != (usage{}) {
					t.Fatalf("nothing, faded: %v", i.usages[0])
				}
			}
		}
	}
}

// Numbers that were worked out by hand. A period that is a half-life has the factors 2^62 and 2^62 + 81.
func TestP164FadeByHand(t *testing.T) {
	for _, k := range []struct{ lo, hi, wantLo, wantHi wide.Num }{
		{wide.Of(0), wide.Of(0), wide.Of(0), wide.Of(0)},
		{wide.Of(0), wide.Of(1), wide.Of(0), wide.Of(1)},                                                           // hardly more than a half, rounded up
		{wide.Of(1), wide.Of(1), wide.Of(0), wide.Of(1)},                                                           //
		{wide.Of(2), wide.Of(2), wide.Of(1), wide.Of(2)},                                                           // hardly more than 1
		{wide.Of(3), wide.Of(3), wide.Of(1), wide.Of(2)},                                                           //
		{wide.Of(7), wide.Of(8), wide.Of(3), wide.Of(5)},                                                           //
		{wide.Num{Hi: 1}, wide.Num{Hi: 1}, wide.Of(one), wide.Of(one + 162)},                                       // 81 * 2^64 / 2^63 is whole
		{wide.Num{Hi: 3, Lo: 1}, wide.Num{Hi: 3, Lo: 1}, wide.Num{Hi: 1, Lo: one}, wide.Num{Hi: 1, Lo: one + 487}}, // 486, and a half and hardly more
		{wide.Num{Hi: 400}, wide.Num{Hi: 400}, wide.Num{Hi: 200}, wide.Num{Hi: 200, Lo: 64800}},
		{wide.Num{Hi: m, Lo: m}, wide.Num{Hi: m, Lo: m}, wide.Num{Hi: 1<<63 - 1, Lo: m}, wide.Num{Hi: 1<<63 + 162}},
	} {
		i, p := both(t, example(), 1)
		set(i, p, 0, k.lo, k.hi)
		fades(i, p)
		same(t, i, p)
		if want := (bounds{k.wantLo, k.wantHi}); i.usages[0].bounds != want {
			t.Errorf("%v and %v, faded: %v, not %v", k.lo, k.hi, i.usages[0], want)
		}
	}
	if first, second := ladder.Bounds(q); first != 1<<62 || second != 1<<62+81 {
		t.Error(first, second)
	}
	// A period that brings 63 halvings leaves nothing of lo, and 81 / 2^63 of hi: of one node-tick 162 / 2^64.
	i, p := both(t, with(4, 6300, 100), 1)
	charges(t, i, p, 0, 1)
	fades(i, p)
	same(t, i, p)
	if i.usages[0].bounds != (bounds{wide.Of(0), wide.Of(162)}) {
		t.Error(i.usages[0])
	}
}

// Several Fades one behind the other, of many accounts, with charges between them or without.
func TestP164FadesOneBehindTheOther(t *testing.T) {
	for k, c := range configs() {
		d := &dice{uint64(k) << 10}
		i, p := both(t, c, 20)
		for n := range 20 {
			lo := d.num()
			hi := lo
			if n%2 == 0 {
				hi, _ = wide.Add(lo, d.num())
			}
			set(i, p, n, lo, hi)
		}
		for n := range 150 {
			before := slices.Clone(i.usages)
			fades(i, p)
			same(t, i, p)
			for a, u := range i.usages {
				if wide.Cmp(u.lo, before[a].lo) > 0 || wide.Cmp(u.hi, before[a].hi) > 0 {
					t.Fatalf("%v, faded: %v", before[a], u)
				}
			}
			if n%3 == 0 {
				charges(t, i, p, d.below(20), c.Nodes)
			}
		}
	}
}

// Lo comes to 0, however great it was; hi, which is rounded up, never does.
func TestP164FadedForLong(t *testing.T) {
	i, p := both(t, example(), 2)
	set(i, p, 0, wide.Num{Hi: m, Lo: m}, wide.Num{Hi: m, Lo: m})
	for range 200 {
		fades(i, p)
	}
	same(t, i, p)
	if u := i.usages[0]; u.lo != wide.Of(0) || u.hi == wide.Of(0) || i.usages[1] != (usage{}) {
		t.Error(i.usages)
	}
}

// refusedLists are lists that tree.Load refuses, by its error; each but those of ErrTreeRoot and ErrTreeMany has four accounts.
func refusedLists() map[api.Errno][][]api.Account {
	other := func(change func(l []api.Account)) []api.Account {
		l := listOf([2]int{0, 3}, [2]int{0, 1}, [2]int{1, 5})
		change(l)
		return l
	}
	return map[api.Errno][][]api.Account{
		api.ErrTreeRoot: {
			nil,
			{},
			other(func(l []api.Account) { l[0].Name = "toor" }),
			other(func(l []api.Account) { l[0].Parent = 0 }),
			other(func(l []api.Account) { l[0].Parent = 1 }),
			other(func(l []api.Account) { l[0].Shares = 2 }),
			other(func(l []api.Account) { l[0].Closed = true }),
			make([]api.Account, 4),
		},
		api.ErrTreeMany: {flat(64), flat(200)},
		api.ErrTreeName: {
			other(func(l []api.Account) { l[1].Name = "" }),
			other(func(l []api.Account) { l[2].Name = "a b" }),
			other(func(l []api.Account) { l[3].Name = strings.Repeat("a", 33) }),
		},
		api.ErrTreeThere: {
			other(func(l []api.Account) { l[2].Name = l[1].Name }),
			other(func(l []api.Account) { l[3].Name = "root" }),
		},
		api.ErrTreeNone: {
			other(func(l []api.Account) { l[1].Parent = -1 }),
			other(func(l []api.Account) { l[2].Parent = 4 }),
			other(func(l []api.Account) { l[3].Parent = math.MaxInt }),
			other(func(l []api.Account) { l[3].Parent = math.MinInt }),
		},
		api.ErrTreeShares: {
			other(func(l []api.Account) { l[1].Shares = 0 }),
			other(func(l []api.Account) { l[2].Shares = -1 }),
			other(func(l []api.Account) { l[3].Shares = 4097 }),
			other(func(l []api.Account) { l[3].Shares = math.MaxInt }),
		},
		api.ErrTreeBelow: {
			other(func(l []api.Account) { l[1].Parent = 1 }),
			other(func(l []api.Account) { l[1].Parent = 3 }),
			other(func(l []api.Account) { l[1].Parent, l[2].Parent, l[3].Parent = 2, 3, 1 }),
		},
		api.ErrTreeDeep: {listOf([2]int{0, 1}, [2]int{1, 1}, [2]int{2, 1}, [2]int{3, 1}, [2]int{4, 1})},
	}
}

func TestP165ListsThatTreeRefuses(t *testing.T) {
	if len(refusedLists()) != 8 {
		t.Fatal(len(refusedLists()))
	}
	for want, lists := range refusedLists() {
		for _, l := range lists {
			if _, e := tree.Load(l); e != want {
				t.Fatalf("%+v: %d, not %d", l, e, want)
			}
			// As many accounts as the list has: nothing else is wrong.
			i, p := both(t, example(), max(len(l), 1))
			for n := range len(l) {
				charges(t, i, p, n, 1)
				nothing(t, i, l, 10, api.Job{Account: n, Nodes: 2, Submit: 3})
			}
			nothing(t, i, l, 10, api.Job{Nodes: 2, Submit: 3})
		}
	}
}

func TestP165FewerAndMoreAccounts(t *testing.T) {
	for accounts := 1; accounts <= 66; accounts++ {
		i, p := both(t, example(), accounts)
		charges(t, i, p, accounts-1, 3)
		for below := range 64 {
			j := api.Job{Account: min(below, accounts-1), Nodes: 2, Submit: 3}
			if l := flat(below); len(l) == accounts {
				something(t, i, p, l, 10, j)
			} else {
				nothing(t, i, l, 10, j)
			}
		}
	}
}

func TestP165AccountsThatAreNone(t *testing.T) {
	for _, count := range []int{1, 2, 5, 64} {
		i, p := both(t, example(), count)
		l := flat(count - 1)
		for _, n := range outside(count) {
			nothing(t, i, l, 10, api.Job{Account: n, Nodes: 2, Submit: 3})
		}
		for n := range count {
			something(t, i, p, l, 10, api.Job{Account: n, Nodes: 2, Submit: 3})
		}
	}
}

// What P16.5 names of the clock and the job, one at a time out of its range.
func TestP165JustBeyond(t *testing.T) {
	c := api.Config{Nodes: 4, Queue: 8, Limit: 10, Age: 2, Fair: 1000, Size: 3, Period: 100, Half: 100}
	i, p := both(t, c, 2)
	l := alone()
	for _, k := range []struct {
		now, submit, nodes int
		want               uint64
	}{
		{0, 0, 1, 1003},
		{0, 0, 4, 1012},
		{-1, 0, 1, 0},
		{-1, -1, 1, 0},
		{10, 10, 1, 1003},
		{10, 11, 1, 0},
		{10, 9, 1, 1005},
		{10, 0, 1, 1023},
		{10, -1, 1, 0},
		{10, math.MinInt, 1, 0},
		{10, math.MaxInt, 1, 0},
		{math.MinInt, math.MinInt, 1, 0},
		{horizon - 1, 0, 1, 2<<40 - 2 + 1003},
		{horizon, 0, 1, 2<<40 + 1003},
		{horizon, horizon, 1, 1003},
		{horizon + 1, 0, 1, 0},
		{horizon + 1, horizon + 1, 1, 0},
		{horizon, horizon + 1, 1, 0},
		{math.MaxInt, math.MaxInt, 1, 0},
		{10, 10, math.MinInt, 0},
		{10, 10, -1, 0},
		{10, 10, 0, 0},
		{10, 10, 3, 1009},
		{10, 10, 4, 1012},
		{10, 10, 5, 0},
		{10, 10, 257, 0},
		{10, 10, math.MaxInt, 0},
	} {
		j := api.Job{Account: 1, Nodes: k.nodes, Submit: k.submit}
		lo, hi, den := i.Priority(l, k.now, j)
		wantDen := wide.Num{}
		if k.want > 0 {
			wantDen = wide.Of(one)
		}
		if want := wide.Mul(k.want, one); lo != want || hi != want || den != wantDen {
			t.Errorf("%+v: %v %v %v", k, lo, hi, den)
		}
		tells(t, i, p, l, k.now, j)
	}
}

// Both ends of each range and just beyond, each with each.
func TestP165Ranges(t *testing.T) {
	told := 0
	for _, c := range configs() {
		i, p := both(t, c, 2)
		charges(t, i, p, 1, c.Nodes)
		for _, l := range [][]api.Account{alone(), flat(2), nil} {
			for _, account := range []int{-1, 0, 1, 2} {
				for _, now := range []int{math.MinInt, -1, 0, 1, horizon, horizon + 1, math.MaxInt} {
					for _, submit := range []int{math.MinInt, -1, 0, now - 1, now, now + 1, horizon, math.MaxInt} {
						for _, nodes := range []int{math.MinInt, 0, 1, c.Nodes, c.Nodes + 1, math.MaxInt} {
							if _, hi := tells(t, i, p, l, now, api.Job{Account: account, Nodes: nodes, Submit: submit}); hi != wide.Of(0) {
								told++
							}
						}
					}
				}
			}
		}
	}
	if told < 200 {
		t.Error("hardly any is above 0:", told)
	}
}

func TestP165UsageOfTheListIsNotSeen(t *testing.T) {
	d := &dice{20}
	for range 100 {
		c := pick(d, configs())
		count := d.from(1, 20)
		l := drawnTree(d, count)
		i, p := both(t, c, count)
		for range 30 {
			charges(t, i, p, d.below(count), d.below(c.Nodes+1))
		}
		now, j := drawnJob(d, c, count)
		lo, hi := tells(t, i, p, l, now, j)
		for _, u := range []uint64{0, 1, q, m} {
			k := slices.Clone(l)
			for n := range k {
				k[n].Usage = u
			}
			if lo2, hi2 := tells(t, i, p, k, now, j); lo2 != lo || hi2 != hi {
				t.Fatalf("with %d: %v %v, not %v %v", u, lo2, hi2, lo, hi)
			}
		}
	}
}

// What a job has beside its Account, Nodes and Submit, names, and whether an account is closed, are not seen either.
func TestP165NothingElseIsSeen(t *testing.T) {
	i, p := both(t, example(), 4)
	l := listOf([2]int{0, 3}, [2]int{0, 1}, [2]int{1, 5})
	charges(t, i, p, 3, 4)
	j := api.Job{Account: 2, Nodes: 2, Submit: 3}
	lo, hi := tells(t, i, p, l, 10, j)
	k := slices.Clone(l)
	for n := 1; n < 4; n++ {
		k[n].Name, k[n].Closed = "other"+strconv.Itoa(9-n), true
	}
	j.Limit, j.State, j.Start, j.End, j.Set = 99, api.Dropped, 5, 4, []int{3, 1}
	if lo2, hi2 := tells(t, i, p, k, 10, j); lo2 != lo || hi2 != hi {
		t.Error(lo2, hi2, lo, hi)
	}
}

// 32 bits behind the point: lo rounded down, hi rounded up, each 2^64 - 1 at most.
func TestP165Rounded(t *testing.T) {
	for _, k := range []struct {
		n      wide.Num
		lo, hi uint64
	}{
		{wide.Of(0), 0, 0},
		{wide.Of(1), 0, 1},
		{wide.Of(q - 1), 0, 1},
		{wide.Of(q), 1, 1},
		{wide.Of(q + 1), 1, 2},
		{wide.Of(m), q - 1, q},
		{wide.Num{Hi: 1}, q, q},
		{wide.Num{Hi: 1, Lo: 1}, q, q + 1},
		{wide.Num{Hi: q - 1, Lo: m - q}, m - 1, m},
		{wide.Num{Hi: q - 1, Lo: m - q + 1}, m, m}, // just the greatest
		{wide.Num{Hi: q - 1, Lo: m - q + 2}, m, m}, // rounded up it would be one more
		{wide.Num{Hi: q - 1, Lo: m}, m, m},
		{wide.Num{Hi: q}, m, m},
		{wide.Num{Hi: m, Lo: m}, m, m},
	} {
		if s := (usage{bounds{k.n, k.n}}).rounded(); s != (span{k.lo, k.hi}) {
			t.Errorf("%v: %v", k.n, s)
		}
	}
	d := &dice{21}
	for range 5000 {
		lo, hi := d.num(), d.num()
		s := usage{bounds{lo, hi}}.rounded()
		if bigOf(s.lo).Cmp(in64(roundDown(numOf(lo), power2(32)))) != 0 || bigOf(s.hi).Cmp(in64(roundUp(numOf(hi), power2(32)))) != 0 {
			t.Fatalf("%v %v: %v", lo, hi, s)
		}
	}
}

// With the accounts' bounds at every edge of that rounding.
func TestP165RoundedInAPriority(t *testing.T) {
	edges := []wide.Num{{}, wide.Of(1), wide.Of(q - 1), wide.Of(q), wide.Of(q + 1), {Hi: 400, Lo: m}, {Hi: 400}, {Hi: 399, Lo: m}, {Hi: q - 1, Lo: m - q}, {Hi: q - 1, Lo: m - q + 1}, {Hi: q - 1, Lo: m}, {Hi: q}, {Hi: m, Lo: m}}
	l := listOf([2]int{0, 3}, [2]int{0, 1}, [2]int{1, 5})
	i, p := both(t, example(), 4)
	for _, a := range edges {
		for _, b := range edges {
			if wide.Cmp(a, b) > 0 {
				continue
			}
			for n := range 4 {
				set(i, p, n, a, b)
				for account := range 4 {
					tells(t, i, p, l, 10, api.Job{Account: account, Nodes: 1, Submit: 3})
				}
				set(i, p, n, wide.Num{}, wide.Num{})
			}
		}
	}
}

// As much as does not fit into 32 bits ahead of the point comes by charges alone, if nothing fades.
func TestP165ChargedBeyondTheGreatest(t *testing.T) {
	c := with(256, 700, 1000)
	i, p := both(t, c, 3)
	for range 1<<24 - 1 {
		i.Charge(1, 256)
	}
	p.lo[1] = times(big.NewInt(1<<32-256), power2(64))
	p.hi[1] = p.lo[1]
	l := listOf([2]int{0, 3}, [2]int{0, 1})
	for _, nodes := range []int{0, 255, 1, 1, 256} {
		charges(t, i, p, 1, nodes)
		same(t, i, p)
		for account := range 3 {
			tells(t, i, p, l, 10, api.Job{Account: account, Nodes: 1, Submit: 3})
		}
	}
	if s := i.usages[1].rounded(); s != (span{m, m}) || i.usages[1].lo != (wide.Num{Hi: q + 257}) {
		t.Error(s, i.usages[1])
	}
}

// familyOf is what a list is reckoned by, and what it must be.
func familyOf(t *testing.T, i *Ideal, p *plain, l []api.Account) (family, plainKin) {
	t.Helper()
	tr, e := tree.Load(l)
	if e != api.OK {
		t.Fatalf("%+v is refused: %d", l, e)
	}
	return i.family(tr), p.kin(l)
}

func isSpan(t *testing.T, what string, n int, got span, lo, hi *big.Int) {
	t.Helper()
	if bigOf(got.lo).Cmp(lo) != 0 || bigOf(got.hi).Cmp(hi) != 0 {
		t.Fatalf("%s of %d: %v, not %s and %s", what, n, got, lo, hi)
	}
	if got.lo > got.hi {
		t.Fatalf("%s of %d: %v", what, n, got)
	}
}

// steps holds each step of P16.5 against what it must be.
func steps(t *testing.T, i *Ideal, p *plain, l []api.Account) {
	t.Helper()
	f, k := familyOf(t, i, p, l)
	for n := range l {
		isSpan(t, "sum", n, f.sum(n), k.sum(k.lo, n), k.sum(k.hi, n))
		lo, hi := k.used(n)
		isSpan(t, "U", n, f.used(n), lo, hi)
		lo, hi = k.effective(n)
		isSpan(t, "Effective", n, f.effective(n), lo, hi)
		first, second := k.factor(n)
		isSpan(t, "factor", n, f.factor(n), bigOf(first), bigOf(second))
		if f.used(n).hi > one || f.factor(n).hi > one {
			t.Fatalf("of %d: U %v, factor %v", n, f.used(n), f.factor(n))
		}
	}
}

// Sums that do not fit stay at the greatest number, on each level for itself, those of the los and of the his apart.
func TestP165SumsThatDoNotFit(t *testing.T) {
	l := listOf([2]int{0, 3}, [2]int{0, 1}, [2]int{1, 5}, [2]int{3, 2})
	// As bounds with 32 bits behind the point.
	for _, k := range []struct{ los, his [5]uint64 }{
		{[5]uint64{m, m, m, m, m}, [5]uint64{m, m, m, m, m}},
		{[5]uint64{}, [5]uint64{m, m, m, m, m}},
		{[5]uint64{0, 0, 0, m, 1}, [5]uint64{0, 0, 0, m, 1}},
		{[5]uint64{0, 0, 0, m - 1, 1}, [5]uint64{0, 0, 0, m - 1, 2}},
		{[5]uint64{0, 1 << 63, 0, 1 << 63, 0}, [5]uint64{0, 1 << 63, 0, 1 << 63, 0}},
		{[5]uint64{0, 1 << 63, 1<<63 - 1, 0, 0}, [5]uint64{0, 1 << 63, 1 << 63, 0, 0}},
		{[5]uint64{5, 7, 9, 11, 13}, [5]uint64{m, 7, 9, 11, m - 13}},
	} {
		i, p := both(t, example(), 5)
		for n := range 5 {
			set(i, p, n, wide.Shl(wide.Of(k.los[n]), 32), wide.Shl(wide.Of(k.his[n]), 32))
		}
		steps(t, i, p, l)
		for n := range 5 {
			tells(t, i, p, l, 10, api.Job{Account: n, Nodes: 1, Submit: 3})
		}
	}
	i, p := both(t, example(), 5)
	for n := range 5 {
		set(i, p, n, wide.Num{}, wide.Num{Hi: m, Lo: m})
	}
	f, _ := familyOf(t, i, p, l)
	if f.sum(0) != (span{0, m}) || f.used(0) != (span{0, one}) {
		t.Error(f.sum(0), f.used(0))
	}
}

// The root's sum around Floor, which is 400 * 2^32: up to there Floor divides, behind it the sum, of the los and of the his apart.
func TestP165WholeAroundFloor(t *testing.T) {
	l := listOf([2]int{0, 3}, [2]int{0, 1}, [2]int{1, 5})
	floor := uint64(400 * q)
	around := []uint64{0, 1, floor / 2, floor - 1, floor, floor + 1, floor + 2, 2 * floor, 3*floor + 1}
	for _, lo := range around {
		for _, hi := range around {
			if lo > hi {
				continue
			}
			for n := range 4 {
				i, p := both(t, example(), 4)
				set(i, p, n, wide.Shl(wide.Of(lo), 32), wide.Shl(wide.Of(hi), 32))
				steps(t, i, p, l)
				f, _ := familyOf(t, i, p, l)
				// All that is used is the root's, and at least Floor is divided by.
				wantLo := numOf(wide.Mul(lo, one))
				if u := f.used(0); bigOf(u.lo).Cmp(roundDown(wantLo, bigOf(max(hi, floor)))) != 0 {
					t.Errorf("%d and %d: %v", lo, hi, u)
				}
				if u := f.used(0); (u.hi == one) != (hi >= floor) {
					t.Errorf("%d and %d: %v", lo, hi, u)
				}
			}
		}
	}
}

// U rounded both ways, and One at most.
func TestP165Used(t *testing.T) {
	third := uint64(3074457345618258602) // 2^63 / 3 is this and 2/3
	for _, k := range []struct{ sum, whole, want span }{
		{span{1, 1}, span{3, 3}, span{third, third + 1}},
		{span{2, 2}, span{3, 3}, span{2*third + 1, 2*third + 2}},
		{span{3, 3}, span{3, 3}, span{one, one}},
		{span{1, 1}, span{2, 2}, span{one / 2, one / 2}},
		{span{1, 2}, span{2, 4}, span{one / 4, one}}, // each by the other one's whole
		{span{2, 4}, span{2, 4}, span{one / 2, one}}, // it would be 2
		{span{0, 1}, span{1, m}, span{0, one}},
		{span{0, m}, span{1, m}, span{0, one}}, // far above 64 bits
		{span{0, m}, span{m, m}, span{0, one}},
		{span{m - 1, m}, span{m, m}, span{one - 1, one}},
		{span{0, m - 1}, span{m, m}, span{0, one}},     // rounded up to One
		{span{0, m - 2}, span{m, m}, span{0, one - 1}}, // 2^63 - 1 and hardly less, rounded up
		{span{0, m - 3}, span{m, m}, span{0, one - 1}}, //
		{span{0, 0}, span{400 * q, 400 * q}, span{0, 0}},
		{span{1, 1}, span{400 * q, 400 * q}, span{5368709, 5368710}},
	} {
		if u := k.sum.of(k.whole); u != k.want {
			t.Errorf("%v of %v: %v, not %v", k.sum, k.whole, u, k.want)
		}
	}
}

// Effective, at accounts of each depth: a chain with sisters at each level.
func TestP165EffectiveOfEachDepth(t *testing.T) {
	l := listOf([2]int{0, 3}, [2]int{0, 1}, [2]int{1, 5}, [2]int{1, 2}, [2]int{3, 7}, [2]int{3, 4}, [2]int{5, 1}, [2]int{5, 4096})
	for n, deep := range []int{0, 1, 1, 2, 2, 3, 3, 4, 4} {
		if deepOf(l, n) != deep {
			t.Fatal(n, deepOf(l, n))
		}
	}
	d := &dice{22}
	for range 300 {
		i, p := both(t, example(), 9)
		for n := range 9 {
			if d.below(2) == 0 {
				lo := wide.Shr(d.num(), 57)
				hi, _ := wide.Add(lo, pick(d, []wide.Num{{}, wide.Of(1), wide.Of(d.word()), wide.Shr(d.num(), 60)}))
				set(i, p, n, lo, hi)
			}
		}
		steps(t, i, p, l)
		for n := range 9 {
			tells(t, i, p, l, 10, api.Job{Account: n, Nodes: 1, Submit: 3})
		}
	}
}

// No parent that a tree has is below what was used: what is told of it is asked behind that.
func TestP165ParentBelowUsed(t *testing.T) {
	half := fraction{1, 2}
	for _, k := range []struct {
		used, parent span
		part         fraction
		want         span
	}{
		{span{10, 20}, span{10, 20}, half, span{10, 20}},
		{span{10, 20}, span{9, 19}, half, span{10, 20}},
		{span{10, 20}, span{0, 0}, half, span{10, 20}},
		{span{10, 20}, span{0, 30}, half, span{10, 25}},
		{span{10, 20}, span{30, 0}, half, span{20, 20}},
		{span{10, 20}, span{11, 21}, half, span{10, 21}}, // a half, rounded down and up
		{span{10, 20}, span{12, 22}, half, span{11, 21}},
		{span{0, 0}, span{1, 1}, fraction{1, 4096}, span{0, 1}},
		{span{0, 0}, span{one, one}, fraction{4096, 4096}, span{one, one}},
		{span{0, 0}, span{one, one}, fraction{4096, 258048}, span{146402730743726600, 146402730743726601}},
		{span{one, one}, span{one, one}, half, span{one, one}},
		{span{one, one}, span{0, 0}, half, span{one, one}},
	} {
		if s := k.used.raised(k.parent, k.part); s != k.want {
			t.Errorf("%+v: %v", k, s)
		}
	}
}

// The powers: of the los rounded down, of the his rounded up, 2^64 - 1 at most, which no share of 1 / 4096 or above comes near.
func TestP165Powers(t *testing.T) {
	for _, k := range []struct {
		effective span
		share     fraction
		want      span
	}{
		{span{0, 0}, fraction{1, 1}, span{0, 0}},
		{span{1, 1}, fraction{1, 1}, span{0, 1}},
		{span{1 << 31, 1 << 31}, fraction{1, 1}, span{1, 1}},
		{span{1<<31 - 1, 1<<31 + 1}, fraction{1, 1}, span{0, 2}},
		{span{one / 4, one / 4}, fraction{3, 4}, span{1431655765, 1431655766}},
		{span{one, one}, fraction{1, 4096}, span{1 << 44, 1 << 44}},
		{span{one, one}, fraction{1, 1 << 32}, span{m, m}}, // one more than it
		{span{one - 1, one}, fraction{1, 1 << 32}, span{m - 1, m}},
		{span{m - 1, m}, fraction{1, 1 << 31}, span{m - 1, m}}, // just at it
		{span{m, m}, fraction{1, m}, span{m, m}},
		{span{1, 1}, fraction{1 << 48, 1}, span{0, 1}},
		{span{one, one}, fraction{1 << 48, 1 << 48}, span{q, q}},
		{span{0, one}, fraction{1 << 48, 61440 << 48}, span{0, 61440 << 32}},
	} {
		if s := k.effective.by(k.share); s != k.want {
			t.Errorf("%+v: %v", k, s)
		}
	}
	d := &dice{23}
	for range 20000 {
		s := span{d.word() >> d.below(64), d.word() >> d.below(64)}
		share := fraction{d.word()>>d.below(64) | 1, d.word() >> d.below(64)}
		by := times(bigOf(share.num), power2(31))
		lo, hi := in64(roundDown(times(bigOf(s.lo), bigOf(share.den)), by)), in64(roundUp(times(bigOf(s.hi), bigOf(share.den)), by))
		if got := s.by(share); bigOf(got.lo).Cmp(lo) != 0 || bigOf(got.hi).Cmp(hi) != 0 {
			t.Fatalf("%v by %v: %v, not %s and %s", s, share, got, lo, hi)
		}
	}
}

// Shares around 1 / 4096: one with 1 share beside sisters that have so many together.
func TestP165ShareAroundTheLeast(t *testing.T) {
	for _, k := range []struct{ beside, power int }{
		{4094, 4095 << 10}, // 1 / 4095 counts
		{4095, 4096 << 10}, // 1 / 4096
		{4096, 4096 << 10}, // 1 / 4097 counts as 1 / 4096
	} {
		l := listOf([2]int{0, 1}, [2]int{0, k.beside})
		i, p := both(t, example(), 3)
		// As much as makes U of the first one 2^-22, and leaves it at that.
		set(i, p, 1, wide.Shr(wide.Num{Hi: 400}, 22), wide.Shr(wide.Num{Hi: 400}, 22))
		steps(t, i, p, l)
		f, _ := familyOf(t, i, p, l)
		if e := f.effective(1); e != (span{one >> 22, one >> 22}) {
			t.Error(k, e)
		}
		first, second := ladder.Bounds(uint64(k.power))
		if got := f.factor(1); got != (span{first, second}) {
			t.Errorf("beside %d: %v, not %d and %d", k.beside, got, first, second)
		}
		tells(t, i, p, l, 10, api.Job{Account: 1, Nodes: 1, Submit: 3})
	}
	// On two levels, with numbers that are not cut down: 64 / 4096 of 64 / 4096 is just 1 / 4096.
	for _, more := range []int{-1, 0, 1} {
		l := listOf([2]int{0, 64}, [2]int{0, 4032}, [2]int{1, 64}, [2]int{1, 4032 + more})
		i, p := both(t, example(), 5)
		set(i, p, 3, wide.Num{Hi: 3, Lo: 1}, wide.Num{Hi: 3, Lo: 2})
		steps(t, i, p, l)
	}
	for _, k := range []struct {
		num, den uint64
		want     fraction
	}{
		{1, 1, fraction{1, 1}}, {1, 4095, fraction{1, 4095}}, {1, 4096, fraction{1, 4096}}, {1, 4097, fraction{1, 4096}},
		{2, 8192, fraction{2, 8192}}, {2, 8193, fraction{1, 4096}}, {1 << 48, 1 << 60, fraction{1 << 48, 1 << 60}},
		{1 << 48, 1<<60 + 1, fraction{1, 4096}}, {1, 61440 << 48, fraction{1, 4096}},
	} {
		if got := atLeast(k.num, k.den); got != k.want {
			t.Errorf("%+v: %v", k, got)
		}
	}
}

// The factor's first bound is of the greater power, its second one of the lesser.
func TestP165FactorIsTurnedRound(t *testing.T) {
	i, p := both(t, example(), 2)
	l, j := alone(), api.Job{Account: 1, Nodes: 2, Submit: 3}
	for _, k := range []struct {
		lo, hi     wide.Num
		down, high uint64
	}{
		{wide.Of(0), wide.Of(0), 0, 0},
		{wide.Of(0), wide.Num{Hi: 200}, 1 << 31, 0},
		{wide.Num{Hi: 100}, wide.Num{Hi: 200}, 1 << 31, 1 << 30},
		{wide.Num{Hi: 100}, wide.Num{Hi: 100}, 1 << 30, 1 << 30},
		{wide.Num{Hi: 100}, wide.Num{Hi: 400}, 1 << 32, 1 << 30},
		{wide.Num{Hi: 100}, wide.Num{Hi: 800}, 1 << 32, 1 << 29}, // Whi is 800, and Wlo 400
		{wide.Num{Hi: 800}, wide.Num{Hi: 800}, 1 << 32, 1 << 32},
	} {
		set(i, p, 1, k.lo, k.hi)
		lo, hi := tells(t, i, p, l, 10, j)
		first, _ := ladder.Bounds(k.down)
		_, second := ladder.Bounds(k.high)
		wantLo, _ := wide.Add(wide.Mul(7, one), wide.Mul(1000, first))
		wantHi, _ := wide.Add(wide.Mul(7, one), wide.Mul(1000, second))
		if lo != wantLo || hi != wantHi {
			t.Errorf("%+v: %v %v, not %v %v", k, lo, hi, wantLo, wantHi)
		}
	}
}

// The greatest weights at the greatest clock fit into 128 bits.
func TestP165TheGreatestPriority(t *testing.T) {
	c := api.Config{Nodes: 256, Queue: 128, Limit: 1 << 20, Age: 1 << 20, Fair: 1 << 20, Size: 1 << 20, Period: 1 << 20, Half: 1 << 22}
	i, p := both(t, c, 2)
	lo, hi := tells(t, i, p, alone(), horizon, api.Job{Account: 1, Nodes: 256})
	if want := wide.Mul(1<<60+1<<20+1<<28, one); lo != want || hi != want {
		t.Error(lo, hi)
	}
}

// step does one call, drawn, to an Ideal and to what it must be.
func step(t *testing.T, d *dice, i *Ideal, p *plain) {
	t.Helper()
	count := len(p.lo)
	switch k := d.below(20); {
	case k == 0 && count < 70:
		opens(t, i, p)
	case k < 3:
		fades(i, p)
	case k == 3:
		charges(t, i, p, pick(d, append(outside(count), 0)), pick(d, []int{math.MinInt, -1, 0, 1, p.c.Nodes, p.c.Nodes + 1, math.MaxInt}))
	case k < 6:
		now, j := drawnJob(d, p.c, count+1)
		tells(t, i, p, drawnTree(d, max(1, count-d.below(10)/9)), now, j)
	default:
		charges(t, i, p, d.below(count+1), d.below(p.c.Nodes+2))
	}
}

func TestP165DrawnScripts(t *testing.T) {
	for k := range 150 {
		d := &dice{uint64(k) << 20}
		c := drawnConfig(d)
		if k < len(configs()) {
			c = configs()[k]
		}
		i, p := both(t, c, d.from(1, 12))
		for range 150 {
			step(t, d, i, p)
			same(t, i, p)
		}
		count := len(p.lo)
		if count > 64 {
			continue
		}
		l := drawnTree(d, count)
		steps(t, i, p, l)
		for n := range count {
			now, j := drawnJob(d, c, count)
			j.Account = n
			tells(t, i, p, l, now, j)
		}
	}
}

// Any bounds whatever, also such as no charges lead to.
func TestP165DrawnBounds(t *testing.T) {
	d := &dice{31}
	for k := range 300 {
		c := pick(d, configs())
		count := d.from(1, 12)
		if k%8 == 0 {
			count = d.from(13, 64)
		}
		l := drawnTree(d, count)
		i, p := both(t, c, count)
		for n := range count {
			if d.below(4) == 0 {
				continue
			}
			lo := d.num()
			hi, _ := wide.Add(lo, pick(d, []wide.Num{{}, wide.Of(1), d.num()}))
			set(i, p, n, lo, hi)
		}
		steps(t, i, p, l)
		for range 5 {
			now, j := drawnJob(d, c, count)
			tells(t, i, p, l, now, j)
		}
	}
}

// precision is in bits: so many that no test can tell a number from the real one.
const precision = 500

// roots are 2^-(2^-i), from i 0 on.
func roots() []*big.Float {
	l := []*big.Float{new(big.Float).SetPrec(precision).SetMantExp(big.NewFloat(1), -1)}
	for i := 1; i <= precision; i++ {
		l = append(l, new(big.Float).SetPrec(precision).Sqrt(l[i-1]))
	}
	return l
}

// realHalf is 2^-x.
func realHalf(x *big.Rat, roots []*big.Float) *big.Float {
	wholes, rest := new(big.Int).DivMod(x.Num(), x.Denom(), new(big.Int))
	bits := roundDown(times(rest, power2(precision)), x.Denom())
	half := new(big.Float).SetPrec(precision).SetInt64(1)
	for i := 1; i <= precision; i++ {
		if bits.Bit(precision-i) == 1 {
			half.Mul(half, roots[i])
		}
	}
	return half.SetMantExp(half, -int(wholes.Int64()))
}

// realKin is chapter 13 without any rounding: usages are node-ticks.
type realKin struct {
	plainKin
	c      api.Config
	usages []*big.Rat
}

func (k realKin) sum(n int) *big.Rat {
	sum := new(big.Rat).Set(k.usages[n])
	for kid, a := range k.accounts {
		if kid > 0 && a.Parent == n {
			sum.Add(sum, k.sum(kid))
		}
	}
	return sum
}

func (k realKin) used(n int) *big.Rat {
	all, floor := k.sum(0), new(big.Rat).SetInt64(int64(k.c.Nodes*k.c.Period))
	if all.Cmp(floor) < 0 {
		all = floor
	}
	return all.Quo(k.sum(n), all)
}

func (k realKin) effective(n int) *big.Rat {
	u := k.used(n)
	if n == 0 {
		return u
	}
	parent := k.accounts[n].Parent
	part := new(big.Rat).Sub(k.effective(parent), u)
	part.Mul(part, new(big.Rat).SetFrac(whole(k.accounts[n].Shares), k.together(parent)))
	return part.Add(part, u)
}

// priority is the ideal one.
func (k realKin) priority(now int, j api.Job, roots []*big.Float) *big.Float {
	s, leastShare := new(big.Rat).SetFrac(k.share(j.Account)), big.NewRat(1, 4096)
	if s.Cmp(leastShare) < 0 {
		s = leastShare
	}
	ideal := realHalf(new(big.Rat).Quo(k.effective(j.Account), s), roots)
	ideal.Mul(ideal, new(big.Float).SetInt64(int64(k.c.Fair)))
	return ideal.Add(ideal, new(big.Float).SetInt64(int64(k.c.Age*(now-j.Submit)+k.c.Size*j.Nodes)))
}

// slack is more than all that a real number is off here, and less than all that a bound is off.
func slack() *big.Float { return new(big.Float).SetMantExp(big.NewFloat(1), -300) }

// within holds it that a real number is between two that have so many bits behind the point.
func within(t *testing.T, what string, real *big.Float, lo, hi wide.Num, bits int) {
	t.Helper()
	float := func(n wide.Num) *big.Float {
		x := new(big.Float).SetPrec(precision).SetInt(numOf(n))
		return x.SetMantExp(x, -bits)
	}
	low, high := float(lo), float(hi)
	if low.Sub(low, slack()).Cmp(real) > 0 || high.Add(high, slack()).Cmp(real) < 0 {
		t.Fatalf("%s: %s is not between %v and %v", what, real.Text('g', 40), lo, hi)
	}
}

// between is a usage of lo to hi, in node-ticks.
func between(d *dice, b bounds) *big.Rat {
	lo, hi := numOf(b.lo), numOf(b.hi)
	part := pick(d, []uint64{0, 0, 1 << 32, 1 << 32, 1 << 31, d.word() % (1 << 32)})
	usage := new(big.Rat).SetFrac(times(less(hi, lo), bigOf(part)), power2(32))
	usage.Add(usage, new(big.Rat).SetInt(lo))
	return usage.Quo(usage, new(big.Rat).SetInt(power2(64)))
}

// By any usages between lo and hi the ideal priority is between both, however far these are from each other.
func TestP165AnyUsagesBetween(t *testing.T) {
	d, roots := &dice{32}, roots()
	for n := range 250 {
		c := pick(d, configs())
		count := d.from(1, 12)
		if n%10 == 0 {
			count = 64
		}
		l := drawnTree(d, count)
		i, p := both(t, c, count)
		// All together are less than 2^32 node-ticks, or the his would stand still.
		most := pick(d, []wide.Num{{Hi: uint64(c.Nodes * c.Period)}, {Hi: 1 << 25}, {Hi: 5}})
		for a := range count {
			lo, _, _ := wide.Div(most, uint64(d.from(2, 50)))
			lo = wide.Shr(lo, d.below(3)*d.below(40))
			lo.Lo ^= d.word()
			hi, _ := wide.Add(lo, pick(d, []wide.Num{{}, wide.Of(d.word()), wide.Of(d.word() >> d.below(64)), wide.Shr(lo, d.below(10))}))
			if d.below(4) > 0 {
				set(i, p, a, lo, hi)
			}
		}
		for range 4 {
			now, j := drawnJob(d, c, count)
			lo, hi := tells(t, i, p, l, now, j)
			usages := make([]*big.Rat, count)
			for a, u := range i.usages {
				usages[a] = between(d, u.bounds)
			}
			k := realKin{p.kin(l), c, usages}
			within(t, "the ideal priority", k.priority(now, j, roots), lo, hi, 63)
		}
	}
}

// busy does to an Ideal all that may be done, and the same to what it must be.
func busy(t *testing.T, i *Ideal, p *plain) {
	t.Helper()
	for range 3 {
		opens(t, i, p)
		for n := range p.lo {
			charges(t, i, p, n, p.c.Nodes)
		}
		fades(i, p)
	}
}

func TestP166Clone(t *testing.T) {
	for _, count := range []int{1, 2, 3, 64} {
		for _, c := range configs() {
			i, p := both(t, c, count)
			busy(t, i, p)
			copied, r := i.Clone(), p.clone()
			same(t, copied, r)
			busy(t, copied, r)
			same(t, i, p)
			same(t, copied, r)
			busy(t, i, p)
			busy(t, i, p)
			same(t, i, p)
			same(t, copied, r)
		}
	}
}

// What one call does to one of the two is not seen at the other, whichever of them it is.
func TestP166CloneByEachCall(t *testing.T) {
	calls := []func(t *testing.T, i *Ideal, p *plain){
		func(t *testing.T, i *Ideal, p *plain) { opens(t, i, p) },
		func(t *testing.T, i *Ideal, p *plain) { charges(t, i, p, 0, 3) },
		func(t *testing.T, i *Ideal, p *plain) { charges(t, i, p, 2, 4) },
		func(t *testing.T, i *Ideal, p *plain) { charges(t, i, p, 2, 5) },
		func(t *testing.T, i *Ideal, p *plain) { fades(i, p) },
		func(t *testing.T, i *Ideal, p *plain) { i.Clone().Charge(1, 4) },
	}
	for accounts := 3; accounts < 10; accounts++ {
		for _, first := range calls {
			for _, second := range calls {
				i, p := both(t, example(), accounts)
				charges(t, i, p, 1, 4)
				charges(t, i, p, 2, 3)
				copied, r := i.Clone(), p.clone()
				first(t, i, p)
				same(t, copied, r)
				second(t, copied, r)
				same(t, i, p)
				same(t, copied, r)
				// An account that both open is charged at one of them alone.
				opens(t, i, p)
				opens(t, copied, r)
				charges(t, i, p, len(p.lo)-1, 4)
				same(t, i, p)
				same(t, copied, r)
				for _, x := range []struct {
					i *Ideal
					p *plain
				}{{i, p}, {copied, r}} {
					for n := range x.p.lo {
						something(t, x.i, x.p, flat(len(x.p.lo)-1), 10, api.Job{Account: n, Nodes: 2, Submit: 3})
					}
				}
			}
		}
	}
}

func TestP166ClonesOfClones(t *testing.T) {
	for k, c := range configs() {
		d := &dice{uint64(k) * 1000}
		i, p := both(t, c, 4)
		ideals, plains := []*Ideal{i}, []*plain{p}
		for range 300 {
			n := d.below(len(ideals))
			if len(ideals) < 10 && d.below(15) == 0 {
				ideals, plains = append(ideals, ideals[n].Clone()), append(plains, plains[n].clone())
			}
			step(t, d, ideals[n], plains[n])
			for o := range ideals {
				same(t, ideals[o], plains[o])
			}
		}
		if len(ideals) < 5 {
			t.Errorf("only %d clones", len(ideals))
		}
	}
}

// run is accounts that are charged tick by tick, as a core does it: by an Ideal, by decay's usages, by a ledger, and without any rounding.
type run struct {
	c      api.Config
	now    int
	i      *Ideal
	usages []uint64
	ledger *ledger.Ledger
	real   []*big.Float
	factor uint64
	left   *big.Float
	lost   *big.Int
	roots  []*big.Float
}

// lostOf is the chapter's G (11).
func lostOf(c api.Config) *big.Int {
	kept := most(roundUp(power2(33), halvings(c)), big.NewInt(2))
	all := times(times(whole(c.Nodes), whole(c.Period)), kept)
	return times(kept, plus(big.NewInt(1), roundUp(times(all, big.NewInt(81)), power2(31))))
}

func newRun(t *testing.T, c api.Config, roots []*big.Float) *run {
	t.Helper()
	factor, e := decay.Factor(c.Period, c.Half)
	book, e2 := ledger.New(c, []uint64{0})
	if e != api.OK || e2 != api.OK {
		t.Fatal(c, e, e2)
	}
	left := realHalf(new(big.Rat).SetFrac(halvings(c), power2(32)), roots)
	return &run{c: c, i: build(t, c), usages: []uint64{0}, ledger: book, real: []*big.Float{newReal()}, factor: factor, left: left, lost: lostOf(c), roots: roots}
}

func newReal() *big.Float { return new(big.Float).SetPrec(precision) }

func (r *run) open(t *testing.T) {
	t.Helper()
	if n := r.i.Open(); n != len(r.usages) || n != r.ledger.Open() {
		t.Fatal("Open:", n)
	}
	r.usages, r.real = append(r.usages, 0), append(r.real, newReal())
}

func (r *run) charge(t *testing.T, account, nodes int) {
	t.Helper()
	if e := r.i.Charge(account, nodes); e != api.OK {
		t.Fatalf("Charge(%d, %d): %d", account, nodes, e)
	}
	r.ledger.Charge(account, nodes)
	r.usages[account] = decay.Charge(r.usages[account], nodes)
	r.real[account].Add(r.real[account], new(big.Float).SetInt64(int64(nodes)))
}

// tick charges each account its nodes, and lets a period end where one does.
func (r *run) tick(t *testing.T, accounts, nodes []int) {
	t.Helper()
	r.now++
	for k, account := range accounts {
		r.charge(t, account, nodes[k])
	}
	if r.now%r.c.Period != 0 {
		return
	}
	r.i.Fade()
	r.ledger.Fade()
	for n, u := range r.usages {
		r.usages[n] = decay.Fade(u, r.factor)
		r.real[n].Mul(r.real[n], r.left)
	}
}

// parted is all nodes, parted among a few accounts.
func (r *run) parted(d *dice) (accounts, nodes []int) {
	left := r.c.Nodes
	for left > 0 {
		some := left
		if d.below(3) > 0 {
			some = d.from(1, left)
		}
		accounts, nodes = append(accounts, d.below(len(r.usages))), append(nodes, some)
		left -= some
	}
	return accounts, nodes
}

// bounded is P16.7.
func (r *run) bounded(t *testing.T) {
	t.Helper()
	for n, u := range r.i.usages {
		within(t, "the ideal usage", r.real[n], u.lo, u.hi, 64)
		if wide.Cmp(u.lo, u.hi) > 0 {
			t.Fatalf("%+v at %d: %v", r.c, r.now, u)
		}
		if own := r.ledger.Own(n); own != r.usages[n] {
			t.Fatalf("a ledger has %d, not %d", own, r.usages[n])
		}
		behind := less(numOf(u.lo), new(big.Int).Lsh(bigOf(r.usages[n]), 32))
		if behind.Sign() < 0 {
			t.Fatalf("%+v at %d: %d has used %d, above lo, %v", r.c, r.now, n, r.usages[n], u.lo)
		}
		// G / 2^32 node-ticks, with 64 bits behind the point.
		if behind.Cmp(times(r.lost, power2(32))) > 0 {
			t.Fatalf("%+v at %d: %d has used %d, below lo, %v, by %s", r.c, r.now, n, r.usages[n], u.lo, behind)
		}
	}
}

// near is P16.8, of one job; it tells prio's priority, and the ideal one's bounds.
func (r *run) near(t *testing.T, l []api.Account, j api.Job) (priority int, lo, hi *big.Rat) {
	t.Helper()
	charged := slices.Clone(l)
	for n, u := range r.usages {
		charged[n].Usage = u
	}
	factors := share.Factors(r.c, charged)
	low, high, den := r.i.Priority(l, r.now, j)
	if den != wide.Of(one) || wide.Cmp(low, high) > 0 {
		t.Fatalf("%+v: Priority(%+v, %d, %+v): %v %v %v", r.c, l, r.now, j, low, high, den)
	}
	priority = prio.Priority(r.c, r.now, j, factors[j.Account])
	lo, hi = new(big.Rat).SetFrac(numOf(low), power2(63)), new(big.Rat).SetFrac(numOf(high), power2(63))
	off, told := r.off(), new(big.Rat).SetInt64(int64(priority))
	if told.Cmp(new(big.Rat).Sub(lo, off)) < 0 || told.Cmp(new(big.Rat).Add(hi, off)) > 0 {
		t.Fatalf("%+v at %d: %+v has %d, off %s to %s by more than %s", r.c, r.now, j, priority, lo.FloatString(9), hi.FloatString(9), off.FloatString(9))
	}
	return priority, lo, hi
}

func (r *run) off() *big.Rat {
	num, den := config.Off(r.c)
	return new(big.Rat).SetFrac(numOf(num), numOf(den))
}

// ranked is P16.8 of several jobs, and what W5 says of two of them: who is ahead by more than twice Off ranks ahead.
func (r *run) ranked(t *testing.T, d *dice, l []api.Account) {
	t.Helper()
	twice := new(big.Rat).Mul(r.off(), big.NewRat(2, 1))
	type rank struct {
		priority int
		lo, hi   *big.Rat
	}
	var ranks []rank
	for range 6 {
		submit := max(0, r.now-d.below(1<<d.below(12)))
		j := api.Job{Account: d.below(len(l)), Nodes: d.from(1, r.c.Nodes), Submit: submit, State: api.Pending}
		priority, lo, hi := r.near(t, l, j)
		for _, o := range ranks {
			if ahead := new(big.Rat).Sub(lo, o.hi); ahead.Cmp(twice) > 0 && priority <= o.priority {
				t.Fatalf("%+v: %s ahead, but %d and %d", r.c, ahead.FloatString(9), priority, o.priority)
			}
			if ahead := new(big.Rat).Sub(o.lo, hi); ahead.Cmp(twice) > 0 && o.priority <= priority {
				t.Fatalf("%+v: %s ahead, but %d and %d", r.c, ahead.FloatString(9), o.priority, priority)
			}
		}
		ranks = append(ranks, rank{priority, lo, hi})
	}
}

// ideal holds the ideal priority, by the ideal usages, against what is told of it.
func (r *run) ideal(t *testing.T, d *dice, l []api.Account) {
	t.Helper()
	j := api.Job{Account: d.below(len(l)), Nodes: d.from(1, r.c.Nodes), Submit: d.below(r.now + 1)}
	usages := make([]*big.Rat, len(l))
	for n, x := range r.real {
		usages[n], _ = x.Rat(nil)
	}
	lo, hi, _ := r.i.Priority(l, r.now, j)
	within(t, "the ideal priority", realKin{plainKin{accounts: l}, r.c, usages}.priority(r.now, j, r.roots), lo, hi, 63)
}

// shortRuns are configs whose periods are so short that many end in a run.
func shortRuns(d *dice) []api.Config {
	l := []api.Config{example()}
	for _, k := range [][3]int{{1, 1, 1}, {4, 1, 2}, {3, 2, 3}, {7, 5, 100}, {16, 10, 3}, {256, 7, 50}, {2, 30, 31}, {5, 3, 200}, {64, 13, 1}, {255, 9, 1000}, {1, 40, 7}} {
		c := api.Config{Nodes: k[0], Queue: 128, Limit: 1 << 20, Age: 1, Fair: 1 << 20, Size: 2, Period: k[1], Half: k[2]}
		for config.Check(c) != api.OK {
			c.Fair /= 2
		}
		l = append(l, c)
	}
	for len(l) < 40 {
		c := drawnConfig(d)
		if c.Period = 1 + c.Period%60; config.Check(c) == api.OK {
			l = append(l, c)
		}
	}
	return l
}

func TestP167AndP168DrawnRuns(t *testing.T) {
	d, roots := &dice{40}, roots()
	fair := 0
	for k, c := range shortRuns(d) {
		r := newRun(t, c, roots)
		for range d.below(6) {
			r.open(t)
		}
		if k%13 == 0 {
			for len(r.usages) < 64 {
				r.open(t)
			}
		}
		l := drawnTree(d, len(r.usages))
		for range 1500 {
			if len(r.usages) < 64 && d.below(200) == 0 {
				r.open(t)
				l = drawnTree(d, len(r.usages))
			}
			accounts, nodes := r.parted(d)
			r.tick(t, accounts, nodes)
			if r.now%c.Period < 2 || d.below(8) == 0 {
				r.bounded(t)
			}
			if d.below(12) == 0 {
				r.ranked(t, d, l)
			}
			if d.below(100) == 0 {
				r.ideal(t, d, l)
				// Other shares and parents from now on.
				l = drawnTree(d, len(r.usages))
			}
		}
		if c.Fair > 0 {
			fair++
		}
	}
	if fair < 20 {
		t.Error("only", fair, "have a fair share")
	}
}

// All Nodes are one account's, at every tick: where usages come to the most that there can be, and all errors stand in one.
func TestP167AndP168OneIsChargedAll(t *testing.T) {
	d, roots := &dice{41}, roots()
	for _, c := range shortRuns(d) {
		r := newRun(t, c, roots)
		r.open(t)
		r.open(t)
		l := listOf([2]int{0, 1}, [2]int{0, 4096})
		for r.now < 3000 {
			r.tick(t, []int{1}, []int{c.Nodes})
			if r.now%7 == 0 {
				r.bounded(t)
			}
			if r.now%50 == 0 {
				r.ranked(t, d, l)
			}
		}
	}
}

// Periods and half-lives of the greatest length, with the greatest machine.
func TestP167AndP168LongPeriods(t *testing.T) {
	d, roots := &dice{42}, roots()
	for _, k := range [][3]int{{256, 1 << 16, 1 << 16}, {256, 1 << 16, 1 << 18}, {256, 1 << 17, 1}, {3, 1 << 16, 1 << 24}} {
		c := api.Config{Nodes: k[0], Queue: 128, Limit: 1 << 20, Age: 1, Fair: 1 << 20, Size: 0, Period: k[1], Half: k[2]}
		if e := config.Check(c); e != api.OK {
			t.Fatal(c, e)
		}
		r := newRun(t, c, roots)
		for range 4 {
			r.open(t)
		}
		l := listOf([2]int{0, 5}, [2]int{1, 1}, [2]int{1, 4096}, [2]int{0, 1})
		for r.now < 5*c.Period+100 {
			// One charge a tick, of all nodes: who is charged changes at times.
			r.tick(t, []int{int(mixed(uint64(r.now>>12)) % 5)}, []int{c.Nodes})
			if at := r.now % c.Period; at < 2 || at == c.Period-1 || r.now%5000 == 0 {
				r.bounded(t)
				r.ranked(t, d, l)
				r.ideal(t, d, l)
			}
		}
	}
}

// Without Fair an error is nowhere: the priority is just the ideal one.
func TestP168WithoutFair(t *testing.T) {
	c := example()
	c.Fair, c.Size = 0, 9
	d := &dice{43}
	r := newRun(t, c, roots())
	r.open(t)
	for range 500 {
		accounts, nodes := r.parted(d)
		r.tick(t, accounts, nodes)
		j := api.Job{Account: 1, Nodes: d.from(1, 4), Submit: d.below(r.now + 1)}
		priority, lo, hi := r.near(t, alone(), j)
		if want := new(big.Rat).SetInt64(int64(priority)); lo.Cmp(want) != 0 || hi.Cmp(want) != 0 {
			t.Fatal(priority, lo, hi)
		}
	}
}

func TestHandedInStays(t *testing.T) {
	d := &dice{50}
	var lists [][]api.Account
	for range 30 {
		lists = append(lists, drawnTree(d, d.from(1, 64)))
	}
	for _, refused := range refusedLists() {
		lists = append(lists, refused...)
	}
	for _, l := range lists {
		i, p := both(t, example(), max(len(l), 1))
		charges(t, i, p, 0, 3)
		// Behind its end there are more accounts, which nobody is to see.
		room := append(slices.Clone(l), api.Account{Name: "spare", Parent: 0, Shares: 7, Usage: 8}, api.Account{Name: "more", Parent: 1, Shares: 9, Closed: true})
		before := slices.Clone(room)
		nodes := []int{1, 2, 3}
		j := api.Job{Account: 0, Nodes: 2, Submit: 3, Set: nodes[:2]}
		tells(t, i, p, room[:len(l)], 10, j)
		if !slices.Equal(room, before) || !slices.Equal(nodes, []int{1, 2, 3}) {
			t.Fatalf("%+v is %+v now", before, room)
		}
		// Nor is it kept: what is told next does not hang on it.
		for n := range room {
			room[n] = api.Account{Name: "gone", Parent: 9, Usage: m}
		}
		same(t, i, p)
		tells(t, i, p, l, 10, j)
	}
}

// A Priority changes nothing, and is the same whenever it is asked for.
func TestR5PriorityChangesNothing(t *testing.T) {
	d := &dice{51}
	for _, c := range configs() {
		i, p := both(t, c, 9)
		l := drawnTree(d, 9)
		for range 40 {
			step(t, d, i, p)
		}
		l = drawnTree(d, len(p.lo))
		now, j := drawnJob(d, c, len(l))
		lo, hi := tells(t, i, p, l, now, j)
		var wait sync.WaitGroup
		for range 8 {
			wait.Go(func() {
				if lo2, hi2, _ := i.Priority(l, now, j); lo2 != lo || hi2 != hi {
					t.Error("another answer")
				}
			})
		}
		wait.Wait()
		same(t, i, p)
	}
}

func TestR5AnswersAlike(t *testing.T) {
	for k, c := range configs() {
		a, pa := both(t, c, 5)
		between, pb := both(t, example(), 9)
		b, pc := both(t, c, 5)
		first, second, third := &dice{uint64(k)}, &dice{uint64(k)}, &dice{99}
		for range 100 {
			step(t, first, a, pa)
			step(t, third, between, pb)
			step(t, second, b, pc)
			if !slices.Equal(a.usages, b.usages) {
				t.Fatalf("alike calls, but %v and %v", a.usages, b.usages)
			}
		}
		same(t, between, pb)
	}
}

func FuzzCalls(f *testing.F) {
	f.Add(uint64(1), 4, 1, 1000, 0, 100, 100)
	f.Add(uint64(2), 256, 1<<20, 1<<20, 1<<20, 1<<20, 1<<22)
	f.Fuzz(func(t *testing.T, seed uint64, nodes, age, fair, size, period, half int) {
		c := api.Config{Nodes: nodes, Queue: 128, Limit: 1 << 20, Age: age, Fair: fair, Size: size, Period: period, Half: half}
		d := &dice{seed}
		if want := config.Check(c); want != api.OK {
			if i, e := New(c); i != nil || e != want {
				t.Fatalf("New(%+v): %v %d, not %d", c, i, e, want)
			}
			return
		}
		i, p := both(t, c, d.from(1, 20))
		for range 60 {
			step(t, d, i, p)
			same(t, i, p)
		}
	})
}

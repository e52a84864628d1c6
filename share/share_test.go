package share

import (
	"math"
	"math/big"
	"slices"
	"strconv"
	"strings"
	"sync"
	"testing"

	"backfill/api"
	"backfill/config"
	"backfill/ladder"
	"backfill/tree"
)

// The tests hold the package against math/big, by the chapter's words: no edge at 64 bits, and the limits written as numbers.

const (
	q   = api.QOne
	one = uint64(1) << 63
	m   = math.MaxUint64
)

func bigOf(n uint64) *big.Int { return new(big.Int).SetUint64(n) }

func times(a, b *big.Int) *big.Int { return new(big.Int).Mul(a, b) }

func plus(a, b *big.Int) *big.Int { return new(big.Int).Add(a, b) }

func less(a, b *big.Int) *big.Int { return new(big.Int).Sub(a, b) }

func power2(n uint) *big.Int { return new(big.Int).Lsh(big.NewInt(1), n) }

func down(a, b *big.Int) *big.Int { return new(big.Int).Div(a, b) }

// up rounds up what is not below 0.
func up(a, b *big.Int) *big.Int {
	quotient, rest := new(big.Int).DivMod(a, b, new(big.Int))
	if rest.Sign() > 0 {
		quotient.Add(quotient, big.NewInt(1))
	}
	return quotient
}

// atMost is the number, or the greatest one of 64 bits.
func atMost(n *big.Int) *big.Int {
	if !n.IsUint64() {
		return bigOf(m)
	}
	return n
}

// plain is accounts of a list that tree.Load takes, by the chapter's words: each number is looked for in the list whenever it is asked for.
type plain struct {
	floor    uint64
	accounts []api.Account
}

func (p plain) together(parent int) *big.Int {
	sum := new(big.Int)
	for n, a := range p.accounts {
		if n > 0 && a.Parent == parent {
			sum.Add(sum, big.NewInt(int64(a.Shares)))
		}
	}
	return sum
}

func (p plain) own(n int) *big.Int { return big.NewInt(int64(p.accounts[n].Shares)) }

func (p plain) share(n int) (num, den *big.Int) {
	if n == 0 {
		return big.NewInt(1), big.NewInt(1)
	}
	parent := p.accounts[n].Parent
	num, den = p.share(parent)
	return times(num, p.own(n)), times(den, p.together(parent))
}

func (p plain) sum(n int) *big.Int {
	sum := bigOf(p.accounts[n].Usage)
	for kid, a := range p.accounts {
		if kid > 0 && a.Parent == n {
			sum = atMost(plus(sum, p.sum(kid)))
		}
	}
	return sum
}

func (p plain) u(n int) *big.Int {
	w := p.sum(0)
	if floor := bigOf(p.floor); floor.Cmp(w) > 0 {
		w = floor
	}
	return down(times(p.sum(n), power2(63)), w)
}

func (p plain) effective(n int) *big.Int {
	u := p.u(n)
	if n == 0 {
		return u
	}
	parent := p.accounts[n].Parent
	return plus(u, down(times(less(p.effective(parent), u), p.own(n)), p.together(parent)))
}

// power is e of P13.3.
func (p plain) power(n int) *big.Int {
	num, den := p.share(n)
	if times(num, big.NewInt(4096)).Cmp(den) < 0 {
		num, den = big.NewInt(1), big.NewInt(4096)
	}
	return atMost(up(times(p.effective(n), den), times(num, power2(31))))
}

func (p plain) factor(n int) uint64 { return ladder.Half(p.power(n).Uint64()) }

// mixed goes through numbers without an order, always the same ones.
func mixed(seed uint64) uint64 {
	seed += 0x9e3779b97f4a7c15
	seed = (seed ^ seed>>30) * 0xbf58476d1ce4e5b9
	seed = (seed ^ seed>>27) * 0x94d049bb133111eb
	return seed ^ seed>>31
}

type dice struct{ seed uint64 }

func (d *dice) word() uint64 {
	d.seed++
	return mixed(d.seed)
}

func (d *dice) below(n int) int { return int(d.word() % uint64(n)) }

func (d *dice) from(least, most int) int { return least + d.below(most-least+1) }

func pick[T any](d *dice, l []T) T { return l[d.below(len(l))] }

// example is the chapter's config: its Floor is 400 * 2^32.
func example() api.Config {
	return api.Config{Nodes: 4, Queue: 8, Limit: 10, Age: 1, Fair: 1000, Size: 0, Period: 100, Half: 100}
}

func with(nodes, period, half int) api.Config {
	c := example()
	c.Fair, c.Nodes, c.Period, c.Half = 0, nodes, period, half
	return c
}

// configs that may be: with the least Floor, the greatest one, and others.
func configs() []api.Config {
	return []api.Config{example(), with(1, 1, 1), with(3, 7, 5), with(255, 1001, 7), with(256, 1<<20, 1)}
}

func aRoot(usage uint64) api.Account {
	return api.Account{Name: "root", Parent: -1, Shares: 1, Usage: usage}
}

// kin is the root and others, each by its parent, its shares and its usage.
func kin(rows ...[3]int) []api.Account {
	l := []api.Account{aRoot(0)}
	for i, r := range rows {
		l = append(l, api.Account{Name: "x" + strconv.Itoa(i), Parent: r[0], Shares: r[1], Usage: uint64(r[2])})
	}
	return l
}

// four are the accounts of the chapter's examples: root, a, b, d.
func four(usages ...uint64) []api.Account {
	l := []api.Account{
		aRoot(0),
		{Name: "a", Parent: 0, Shares: 3},
		{Name: "b", Parent: 0, Shares: 1},
		{Name: "d", Parent: 1, Shares: 5},
	}
	for n, u := range usages {
		l[n].Usage = u
	}
	return l
}

// greatest has the greatest den of all: the most sisters on four levels, 16, 16, 16 and 15, all with these Shares; those that have others below them stand first or last among their sisters.
func greatest(shares int, last bool) []api.Account {
	l := []api.Account{aRoot(0)}
	parent := 0
	for _, sisters := range []int{16, 16, 16, 15} {
		first := len(l)
		for range sisters {
			l = append(l, api.Account{Name: "s" + strconv.Itoa(len(l)), Parent: parent, Shares: shares})
		}
		parent = first
		if last {
			parent = len(l) - 1
		}
	}
	return l
}

func deepOf(l []api.Account, n int) int {
	deep := 0
	for ; n != 0; n = l[n].Parent {
		deep++
	}
	return deep
}

// drawnTree is a tree of so many accounts, in which a parent may stand ahead of its child or behind it.
func drawnTree(d *dice, count int) []api.Account {
	l := []api.Account{aRoot(0)}
	for len(l) < count {
		parent := d.below(len(l))
		if d.below(3) == 0 {
			parent = len(l) - 1
		}
		if deepOf(l, parent) < 4 {
			l = append(l, api.Account{Name: "n" + strconv.Itoa(len(l)), Parent: parent, Shares: drawnShares(d)})
		}
	}
	return moved(d, l)
}

// moved is the same tree with its accounts (but the root) in another order.
func moved(d *dice, l []api.Account) []api.Account {
	to := make([]int, len(l))
	for n := range to {
		to[n] = n
	}
	for n := len(to) - 1; n > 1; n-- {
		k := d.from(1, n)
		to[n], to[k] = to[k], to[n]
	}
	out := make([]api.Account, len(l))
	for n, a := range l {
		if n > 0 {
			a.Parent = to[a.Parent]
		}
		out[to[n]] = a
	}
	return out
}

func drawnShares(d *dice) int {
	switch d.below(4) {
	case 0:
		return pick(d, []int{1, 1, 2, 3, 4095, 4096, 4096})
	case 1:
		return d.from(1, 8)
	}
	return d.from(1, 4096)
}

// drawnUsage is one of any size, or one of a size that the floor has.
func drawnUsage(d *dice, floor uint64) uint64 {
	switch d.below(8) {
	case 0:
		return 0
	case 1:
		return pick(d, []uint64{1, 2, 3, q - 1, q, floor - 1, floor, floor + 1, 1<<63 - 1, 1 << 63, m - 1, m})
	case 2:
		return d.word()
	case 3:
		return d.word() >> d.below(64)
	}
	return d.word() % (floor/16 + 1)
}

// charged has drawn usages: of all accounts, or of one kind alone.
func charged(d *dice, l []api.Account, floor uint64) []api.Account {
	kind := d.below(5)
	for n := range l {
		if kind == 0 || d.below(4) < kind {
			l[n].Usage = drawnUsage(d, floor)
		}
	}
	return l
}

// within has usages that are so much together, or a little less.
func within(d *dice, l []api.Account, all uint64) []api.Account {
	for n := range l {
		u := d.word() % (all/2 + 1)
		l[n].Usage = u
		all -= u
	}
	if d.below(2) == 0 {
		l[d.below(len(l))].Usage += all
	}
	return l
}

// check holds all three calls against what they must answer, and what follows of it.
func check(t *testing.T, c api.Config, l []api.Account) (num, den, effective, factors []uint64) {
	t.Helper()
	if e := config.Check(c); e != api.OK {
		t.Fatalf("%+v may not be: %d", c, e)
	}
	if _, e := tree.Load(l); e != api.OK {
		t.Fatalf("%+v is refused: %d", l, e)
	}
	p := plain{config.Floor(c), l}
	num, den = Shares(l)
	effective, factors = Effective(c, l), Factors(c, l)
	if len(num) != len(l) || len(den) != len(l) || len(effective) != len(l) || len(factors) != len(l) {
		t.Fatalf("of %d accounts: %d, %d, %d, %d", len(l), len(num), len(den), len(effective), len(factors))
	}
	for n := range l {
		if wantNum, wantDen := p.share(n); bigOf(num[n]).Cmp(wantNum) != 0 || bigOf(den[n]).Cmp(wantDen) != 0 {
			t.Fatalf("Shares(%+v) of %d: %d / %d, not %s / %s", l, n, num[n], den[n], wantNum, wantDen)
		}
		if want := p.effective(n); bigOf(effective[n]).Cmp(want) != 0 {
			t.Fatalf("Effective(%+v, %+v) of %d: %d, not %s", c, l, n, effective[n], want)
		}
		if want := p.factor(n); factors[n] != want {
			t.Fatalf("Factors(%+v, %+v) of %d: %d, not %d", c, l, n, factors[n], want)
		}
		follows(t, p, n, effective, factors)
	}
	return num, den, effective, factors
}

// follows is P13.4 of one account.
func follows(t *testing.T, p plain, n int, effective, factors []uint64) {
	t.Helper()
	u := p.u(n)
	if bigOf(effective[n]).Cmp(u) < 0 {
		t.Fatalf("%+v: Effective of %d is %d, below its U, %s", p, n, effective[n], u)
	}
	if factors[n] > one || effective[n] > one {
		t.Fatalf("%+v: %d has Effective %d and the factor %d", p, n, effective[n], factors[n])
	}
	if (factors[n] == one) != (effective[n] == 0) {
		t.Fatalf("%+v: %d has Effective %d and the factor %d", p, n, effective[n], factors[n])
	}
	if n == 0 {
		return
	}
	parent := p.accounts[n].Parent
	if effective[n] > effective[parent] {
		t.Fatalf("%+v: Effective of %d is %d, above its parent's, %d", p, n, effective[n], effective[parent])
	}
	if bigOf(effective[parent]).Cmp(u) < 0 {
		t.Fatalf("%+v: Effective of %d is %d, below U of %d, %s", p, parent, effective[parent], n, u)
	}
}

// none holds it that the three calls tell nothing.
func none(t *testing.T, c api.Config, l []api.Account) {
	t.Helper()
	effective, factors := Effective(c, l), Factors(c, l)
	if len(effective) != 0 || len(factors) != 0 {
		t.Fatalf("of %+v and %+v: %v, %v", c, l, effective, factors)
	}
}

func noShares(t *testing.T, l []api.Account) {
	t.Helper()
	if num, den := Shares(l); len(num) != 0 || len(den) != 0 {
		t.Fatalf("Shares(%+v): %v, %v", l, num, den)
	}
}

func is(t *testing.T, what string, got []uint64, want ...uint64) {
	t.Helper()
	if !slices.Equal(got, want) {
		t.Errorf("%s: %d, not %d", what, got, want)
	}
}

func TestChapterExamples(t *testing.T) {
	c := example()
	if floor := config.Floor(c); floor != 400*q {
		t.Fatal("Floor", floor)
	}
	l := four()
	is(t, "Effective without usage", Effective(c, l), 0, 0, 0, 0)
	is(t, "Factors without usage", Factors(c, l), one, one, one, one)

	l = four(0, 0, 0, 100*q)
	num, den := Shares(l)
	is(t, "num", num, 1, 3, 1, 15)
	is(t, "den", den, 1, 4, 4, 20)
	is(t, "Effective", Effective(c, l), one/4, one/4, one/16, one/4)
	is(t, "Factors", Factors(c, l), ladder.Half(1<<30), ladder.Half(1431655766), ladder.Half(1<<30), ladder.Half(1431655766))
	f, _ := familyOf(l)
	is(t, "U", f.used(400*q), one/4, one/4, 0, one/4)
	check(t, c, l)

	l[2].Parent = -1
	noShares(t, l)
	none(t, c, l)
}

func TestP131SharesOfTheRootAlone(t *testing.T) {
	for _, u := range []uint64{0, 1, 5 * q, m} {
		num, den := Shares([]api.Account{aRoot(u)})
		is(t, "num", num, 1)
		is(t, "den", den, 1)
	}
}

func TestP131SharesOfSisters(t *testing.T) {
	num, den := Shares(kin([3]int{0, 1}, [3]int{0, 4096}))
	is(t, "num", num, 1, 1, 4096)
	is(t, "den", den, 1, 4097, 4097)

	num, den = Shares(kin([3]int{0, 1}, [3]int{0, 1}))
	is(t, "num", num, 1, 1, 1)
	is(t, "den", den, 1, 2, 2)

	// An only child has the whole of its parent's share, and nothing is cut down.
	num, den = Shares(kin([3]int{0, 4096}, [3]int{1, 4096}, [3]int{1, 4096}))
	is(t, "num", num, 1, 4096, 1<<24, 1<<24)
	is(t, "den", den, 1, 4096, 1<<25, 1<<25)

	for _, shares := range []int{1, 2, 4095, 4096} {
		rows := make([][3]int, 63)
		for i := range rows {
			rows[i] = [3]int{0, shares}
		}
		num, den = Shares(kin(rows...))
		for n := 1; n < 64; n++ {
			if num[n] != uint64(shares) || den[n] != uint64(63*shares) {
				t.Fatal(shares, n, num[n], den[n])
			}
		}
	}
}

func TestP131SharesAtTheGreatest(t *testing.T) {
	for _, last := range []bool{false, true} {
		for _, shares := range []int{1, 4095, 4096} {
			l := greatest(shares, last)
			if len(l) != 64 {
				t.Fatal(len(l))
			}
			num, den, _, _ := check(t, example(), l)
			if n := len(l) - 1; shares == 4096 && (num[n] != 1<<48 || den[n] != 61440<<48) {
				t.Fatalf("num %d, den %d", num[n], den[n])
			}
		}
	}
}

// Of all ways to part 63 accounts among four levels, none has a den that does not fit.
func TestP131AllFit(t *testing.T) {
	for a := 1; a < 61; a++ {
		for b := 1; a+b < 62; b++ {
			for c := 1; a+b+c < 63; c++ {
				den := power2(48)
				for _, sisters := range []int{a, b, c, 63 - a - b - c} {
					den.Mul(den, big.NewInt(int64(sisters)))
				}
				if !den.IsUint64() {
					t.Fatal(a, b, c, den)
				}
			}
		}
	}
}

// One with the least Shares among the most sisters with the greatest, and below it again, has the least share there may be.
func TestP131TheLeastShare(t *testing.T) {
	l := greatest(4096, false)
	for n := 1; n < len(l); n++ {
		if n == 1 || l[n-1].Parent != l[n].Parent {
			l[n].Shares = 1
		}
	}
	num, den, _, _ := check(t, example(), l)
	if num[49] != 1 || den[49] != 61441*61441*61441*57345 {
		t.Error(num[49], den[49])
	}
}

func TestP131ParentsBehind(t *testing.T) {
	// A chain from the last account up.
	l := kin([3]int{2, 5, 10}, [3]int{3, 7, 20}, [3]int{4, 11, 30}, [3]int{0, 13, 40}, [3]int{3, 2, 50})
	num, den, _, _ := check(t, example(), l)
	is(t, "num", num, 1, 5*7*11*13, 7*11*13, 11*13, 13, 2*11*13)
	is(t, "den", den, 1, 13*11*9*5, 13*11*9, 13*11, 13, 13*11*9)
	sum := plain{0, l}.sum
	if sum(4).Uint64() != 150 || sum(3).Uint64() != 110 || sum(2).Uint64() != 30 {
		t.Error("sums", sum(4), sum(3), sum(2))
	}
}

// The same tree in another order has the same numbers, by its accounts.
func TestP131OrderOfTheList(t *testing.T) {
	d := &dice{101}
	for range 200 {
		c := pick(d, configs())
		l := charged(d, drawnTree(d, d.from(2, 64)), config.Floor(c))
		k := moved(d, l)
		num, den := Shares(l)
		effective, factors := Effective(c, l), Factors(c, l)
		num2, den2 := Shares(k)
		effective2, factors2 := Effective(c, k), Factors(c, k)
		for n, a := range k {
			o := slices.IndexFunc(l, func(b api.Account) bool { return a.Name == b.Name })
			if num[o] != num2[n] || den[o] != den2[n] || effective[o] != effective2[n] || factors[o] != factors2[n] {
				t.Fatalf("%+v and %+v: %s", l, k, a.Name)
			}
		}
	}
}

// refusedLists are lists that tree.Load refuses, by its error.
func refusedLists() map[api.Errno][][]api.Account {
	other := func(change func(l []api.Account)) []api.Account {
		l := four(1*q, 2*q, 3*q, 4*q)
		change(l)
		return l
	}
	tooMany := greatest(1, false)
	tooMany = append(tooMany, api.Account{Name: "more", Parent: 0, Shares: 1})
	return map[api.Errno][][]api.Account{
		api.ErrTreeRoot: {
			nil,
			{},
			other(func(l []api.Account) { l[0].Name = "toor" }),
			other(func(l []api.Account) { l[0].Name = "" }),
			other(func(l []api.Account) { l[0].Parent = 0 }),
			other(func(l []api.Account) { l[0].Parent = 1 }),
			other(func(l []api.Account) { l[0].Parent = -2 }),
			other(func(l []api.Account) { l[0].Shares = 0 }),
			other(func(l []api.Account) { l[0].Shares = 2 }),
			other(func(l []api.Account) { l[0].Closed = true }),
			four()[1:],
		},
		api.ErrTreeMany: {tooMany, append(slices.Clone(tooMany), tooMany[1:]...)},
		api.ErrTreeName: {
			other(func(l []api.Account) { l[1].Name = "" }),
			other(func(l []api.Account) { l[2].Name = "a b" }),
			other(func(l []api.Account) { l[3].Name = "é" }),
			other(func(l []api.Account) { l[3].Name = strings.Repeat("a", 33) }),
		},
		api.ErrTreeThere: {
			other(func(l []api.Account) { l[2].Name = "a" }),
			other(func(l []api.Account) { l[3].Name = "root" }),
			append(four(), aRoot(0)),
		},
		api.ErrTreeNone: {
			other(func(l []api.Account) { l[1].Parent = -1 }),
			other(func(l []api.Account) { l[2].Parent = 4 }),
			other(func(l []api.Account) { l[3].Parent = math.MaxInt }),
			other(func(l []api.Account) { l[3].Parent = math.MinInt }),
		},
		api.ErrTreeShares: {
			other(func(l []api.Account) { l[1].Shares = 0 }),
			other(func(l []api.Account) { l[2].Shares = -1 }),
			other(func(l []api.Account) { l[3].Shares = 4097 }),
			other(func(l []api.Account) { l[3].Shares = math.MinInt }),
			other(func(l []api.Account) { l[3].Shares = math.MaxInt }),
		},
		api.ErrTreeBelow: {
			other(func(l []api.Account) { l[1].Parent = 1 }),
			other(func(l []api.Account) { l[1].Parent = 3 }),
			other(func(l []api.Account) { l[1].Parent, l[2].Parent, l[3].Parent = 2, 3, 1 }),
		},
		api.ErrTreeDeep: {
			kin([3]int{0, 1}, [3]int{1, 1}, [3]int{2, 1}, [3]int{3, 1}, [3]int{4, 1}),
			kin([3]int{2, 1}, [3]int{3, 1}, [3]int{4, 1}, [3]int{5, 1}, [3]int{0, 1}),
		},
	}
}

// refusedConfigs are configs that config.Check refuses, by its error. (None that it can be handed has ErrConfigScale.)
func refusedConfigs() map[api.Errno][]api.Config {
	other := func(change func(c *api.Config)) api.Config {
		c := example()
		change(&c)
		return c
	}
	return map[api.Errno][]api.Config{
		api.ErrConfigRange: {
			{},
			other(func(c *api.Config) { c.Nodes = 0 }),
			other(func(c *api.Config) { c.Nodes = 257 }),
			other(func(c *api.Config) { c.Queue = 129 }),
			other(func(c *api.Config) { c.Limit = -1 }),
			other(func(c *api.Config) { c.Age = 0 }),
			other(func(c *api.Config) { c.Fair = 1<<20 + 1 }),
			other(func(c *api.Config) { c.Size = math.MinInt }),
			other(func(c *api.Config) { c.Period = 0 }),
			other(func(c *api.Config) { c.Half = math.MaxInt }),
		},
		api.ErrConfigUsage: {
			other(func(c *api.Config) { c.Period, c.Half = 1, 1<<30 }),
			other(func(c *api.Config) { c.Nodes, c.Period, c.Half = 256, 1<<20, 1<<30 }),
		},
		api.ErrConfigError: {
			other(func(c *api.Config) { c.Fair = 1 }),
			other(func(c *api.Config) { c.Fair, c.Age, c.Queue, c.Limit = 1, 1, 1, 1 }),
		},
	}
}

func TestP131ListsThatTreeRefuses(t *testing.T) {
	if l := refusedLists(); len(l) != 8 {
		t.Fatal(len(l))
	}
	for want, lists := range refusedLists() {
		for _, l := range lists {
			if _, e := tree.Load(l); e != want {
				t.Fatalf("%+v: %d, not %d", l, e, want)
			}
			noShares(t, l)
			for _, c := range configs() {
				none(t, c, l)
			}
		}
	}
}

func TestP132ConfigsThatAreRefused(t *testing.T) {
	for want, cs := range refusedConfigs() {
		for _, c := range cs {
			if e := config.Check(c); e != want {
				t.Fatalf("%+v: %d, not %d", c, e, want)
			}
			for _, l := range [][]api.Account{four(), four(1*q, 2*q, 3*q, 4*q), {aRoot(0)}, {aRoot(m)}, greatest(4096, false)} {
				none(t, c, l)
			}
		}
	}
}

func TestP132ListAndConfigBothWrong(t *testing.T) {
	for _, cs := range refusedConfigs() {
		for _, c := range cs {
			for _, lists := range refusedLists() {
				for _, l := range lists {
					none(t, c, l)
				}
			}
		}
	}
}

// parentsOf goes through all ways in which so many accounts behind the root can have parents.
func parentsOf(count int) func(func([]int) bool) {
	return func(yield func([]int) bool) {
		parents := make([]int, count)
		for {
			if !yield(parents) {
				return
			}
			i := 0
			for i < count && parents[i] == count {
				parents[i] = 0
				i++
			}
			if i == count {
				return
			}
			parents[i]++
		}
	}
}

// All lists of up to six accounts, by their parents: those that are trees, and those that are none.
func TestAllSmallLists(t *testing.T) {
	d := &dice{7}
	trees, others := 0, 0
	for count := range 6 {
		for parents := range parentsOf(count) {
			rows := make([][3]int, count)
			for i, parent := range parents {
				rows[i] = [3]int{parent, d.from(1, 9), int(d.word() % (80 * q))}
			}
			l := kin(rows...)
			l[0].Usage = d.word() % (20 * q)
			if _, e := tree.Load(l); e != api.OK {
				others++
				noShares(t, l)
				none(t, example(), l)
				continue
			}
			trees++
			check(t, example(), l)
		}
	}
	if trees < 1000 || others < 1000 {
		t.Error(trees, others)
	}
}

func TestP132NoUsage(t *testing.T) {
	d := &dice{11}
	for range 100 {
		l := drawnTree(d, d.from(1, 64))
		_, _, effective, factors := check(t, pick(d, configs()), l)
		for n := range l {
			if effective[n] != 0 || factors[n] != one {
				t.Fatalf("%+v: of %d %d and %d", l, n, effective[n], factors[n])
			}
		}
	}
}

// Usage of one account alone, at each place: of the root, of an inner one, of one without any below it.
func TestP132UsageOfOne(t *testing.T) {
	usages := []uint64{1, 2, 3, q - 1, q, q + 1, 100 * q, 400*q - 1, 400 * q, 400*q + 1, 1<<63 - 1, 1 << 63, m - 1, m}
	for n := range 4 {
		for _, u := range usages {
			l := four()
			l[n].Usage = u
			_, _, effective, _ := check(t, example(), l)
			if u >= 400*q && effective[0] != one {
				t.Error(n, u, effective)
			}
		}
	}
	c := example()
	is(t, "of the root", Effective(c, four(100*q)), one/4, one/16*3, one/16, one/16*3)
	is(t, "of a", Effective(c, four(0, 100*q)), one/4, one/4, one/16, one/4)
	is(t, "of b", Effective(c, four(0, 0, 100*q)), one/4, one/16*3, one/4, one/16*3)
	is(t, "of d", Effective(c, four(0, 0, 0, 100*q)), one/4, one/4, one/16, one/4)
	// 1/4, 9/40, 19/160, 9/40: all but the first one are not whole.
	is(t, "of all", Effective(c, four(10*q, 20*q, 30*q, 40*q)), one/4, 2075258708292324556, 1095275429376504626, 2075258708292324556)
}

// Rounding is asked for by numbers that were worked out by hand: a third of all is used by one, of two sisters.
func TestP132Rounding(t *testing.T) {
	c := with(1, 3, 1) // Floor is 3 * 2^32
	if config.Floor(c) != 3*q {
		t.Fatal(config.Floor(c))
	}
	l := kin([3]int{0, 1, q}, [3]int{0, 1, 0}, [3]int{0, 1, 0})
	third := uint64(3074457345618258602) // 2^63 / 3 is this and 2/3
	is(t, "thirds", Effective(c, l), third, third, third/3, third/3)

	l = kin([3]int{0, 2, q}, [3]int{0, 1, 2 * q})
	is(t, "all used", Effective(c, l), one, third+4099276460824344804, 2*third+1+(third+1)/3)
	check(t, c, l)
	l = kin([3]int{0, 2, 3 * q / 2}, [3]int{0, 2, 3 * q / 2})
	is(t, "whole", Effective(c, l), one, one/4*3, one/4*3)
	check(t, c, l)
}

// The root's sum around Floor: up to there Floor divides, behind it the sum.
func TestP132SumAroundFloor(t *testing.T) {
	for _, c := range configs() {
		floor := config.Floor(c)
		for _, all := range []uint64{0, 1, floor / 2, floor - 1, floor, floor + 1, floor + 2, 2 * floor, 3*floor + 1} {
			for _, l := range [][]api.Account{
				four(all),
				four(0, all),
				four(0, 0, 0, all),
				four(all/4, all/4, all/4, all-all/4*3),
				four(all-all/7-all/3, 0, all/7, all/3),
			} {
				_, _, effective, _ := check(t, c, l)
				if (effective[0] == one) != (all >= floor) {
					t.Fatalf("%+v, %d used of %d: %d", c, all, floor, effective)
				}
			}
		}
	}
}

// Sums that do not fit stay at the greatest number, on each level for itself.
func TestP132SumsThatStandStill(t *testing.T) {
	c := example()
	for _, l := range [][]api.Account{
		four(m, m, m, m),
		four(0, m, m, 0),
		four(0, 1, m, m),
		four(1, 0, 0, m),
		four(m, 0, 0, 1),
		four(0, m-1, 0, 1),
		four(0, m-1, 0, 2),
		four(0, m-1, 1, 0),
		four(0, 1<<63, 1<<63, 0),
		four(0, 1<<63, 1<<63-1, 0),
		four(1<<63, 1<<62, 1<<61, 1<<62),
	} {
		check(t, c, l)
	}
	// Both sisters have used all: what they have together is more than their parent's, which stands still.
	is(t, "sisters", Effective(c, four(0, m, m, 0)), one, one, one, one)
	l := greatest(4096, true)
	for n := range l {
		l[n].Usage = m - uint64(n)
	}
	check(t, c, l)
}

func TestP132Drawn(t *testing.T) {
	d := &dice{1000}
	for range 600 {
		c := pick(d, configs())
		count := d.from(1, 64)
		if d.below(2) == 0 {
			count = d.from(1, 8)
		}
		check(t, c, charged(d, drawnTree(d, count), config.Floor(c)))
	}
}

// A parent's Effective is U of those below it at least: also where the parent has used nothing itself, and where both are just the same.
func TestP132ParentIsNotBelow(t *testing.T) {
	for _, u := range []uint64{1, 7, 100*q + 1, 400 * q, 401 * q, m} {
		l := kin([3]int{0, 1}, [3]int{1, 4096}, [3]int{2, 1}, [3]int{3, 4096}, [3]int{0, 4096})
		l[4].Usage = u
		_, _, effective, _ := check(t, example(), l)
		for n := 1; n <= 4; n++ {
			if effective[n] != effective[0] {
				t.Errorf("all is used by 4: %d", effective)
			}
		}
	}
}

// powersOf are the powers by which the factors of P13.3 are told, as the chapter reckons them.
func powersOf(c api.Config, l []api.Account) []uint64 {
	p := plain{config.Floor(c), l}
	out := make([]uint64, len(l))
	for n := range l {
		out[n] = p.power(n).Uint64()
	}
	return out
}

// Shares around 1 / 4096: one with 1 share beside sisters that have so many together.
func TestP133ShareAroundTheLeast(t *testing.T) {
	c := example()
	for _, x := range []struct{ beside, e uint64 }{
		{4094, 4095 << 10}, // 1 / 4095 counts
		{4095, 4096 << 10}, // 1 / 4096
		{4096, 4096 << 10}, // 1 / 4097 counts as 1 / 4096
	} {
		l := kin([3]int{0, 1}, [3]int{0, int(x.beside)})
		// As much as makes U of the first one 2^-22, and leaves it at that.
		l[1].Usage = 400 * q >> 22
		_, _, effective, factors := check(t, c, l)
		if effective[0] != one>>22 || effective[1] != one>>22 {
			t.Fatal(x, effective)
		}
		if factors[1] != ladder.Half(x.e) {
			t.Errorf("beside %d: %d, not %d", x.beside, factors[1], ladder.Half(x.e))
		}
	}
	// On two levels, with numbers that are not cut down: 64 / 4096 of 64 / 4096 is just 1 / 4096.
	for _, more := range []int{-1, 0, 1} {
		l := kin([3]int{0, 64}, [3]int{0, 4032}, [3]int{1, 64}, [3]int{1, 4032 + more})
		l[3].Usage = 3*q + 1
		num, den, _, _ := check(t, c, l)
		if above := num[3]*4096 > den[3]; above != (more < 0) {
			t.Error(more, num, den)
		}
		if just := num[3]*4096 == den[3]; just != (more == 0) {
			t.Error(more, num, den)
		}
	}
	check(t, c, charged(&dice{3}, greatest(4096, false), 400*q))
}

// Far below 1 / 4096 a share still counts as that: so a power is 4096 at most, whatever is used.
func TestP133TheGreatestPower(t *testing.T) {
	c := example()
	l := kin([3]int{0, 1}, [3]int{0, 4096}, [3]int{1, 1}, [3]int{1, 4096})
	for _, u := range []uint64{400 * q, m} {
		l[3].Usage = u
		_, _, effective, factors := check(t, c, l)
		if e := powersOf(c, l); effective[3] != one || e[3] != 1<<44 || factors[3] != 0 {
			t.Error(u, effective, e, factors)
		}
	}
	l[3].Usage = 1
	_, _, effective, factors := check(t, c, l)
	if factors[3] == 0 || factors[3] == one {
		t.Error(effective, factors)
	}
	// A share of 1 / 63 and all of the usage: a half to the power of 63 is told as 0, and of 1 / 62 as 2.
	for _, sisters := range []int{62, 63} {
		rows := make([][3]int, sisters)
		for i := range rows {
			rows[i] = [3]int{0, 4096}
		}
		l := kin(rows...)
		l[5].Usage = 400 * q
		_, _, _, factors := check(t, c, l)
		if want := map[int]uint64{62: 2, 63: 0}[sisters]; factors[5] != want {
			t.Error(sisters, factors[5])
		}
	}
}

// The quotient whole, and rounded up by very little or very much.
func TestP133Rounding(t *testing.T) {
	c := example()
	is(t, "powers", powersOf(c, four(0, 0, 0, 100*q)), 1<<30, 1431655766, 1<<30, 1431655766)

	// The root's Effective is its U: 2^31 of it are one unit of the power.
	for _, x := range []struct{ u, effective, e uint64 }{
		{400, one >> 32, 1},                   // 2^31: just one
		{800, one >> 31, 2},                   // just two
		{1, one / (400 * q), 1},               // 5368709, rounded up to one
		{399, 2142114938, 1},                  // hardly less than one
		{401, 2152852357, 2},                  // hardly more than one
		{400*q - 1, one - 5368709 - 1, q},     // hardly less than all
		{200 * q, one / 2, q / 2},             //
		{200*q + 1, one/2 + 5368709, q/2 + 1}, //
		{400 * q, one, q},                     //
		{400*q + 1, one, q},                   //
		{m, one, q},                           //
		{400*q - 400, one - 1<<31, q - 1},     // just one less than all
		{400*q - 399, one - 1<<31 + 5368709, q},
	} {
		l := []api.Account{aRoot(x.u)}
		_, _, effective, factors := check(t, c, l)
		if effective[0] != x.effective || factors[0] != ladder.Half(x.e) || powersOf(c, l)[0] != x.e {
			t.Errorf("%d used: %d and %d, not %d and %d (of %d)", x.u, effective, factors, x.effective, ladder.Half(x.e), x.e)
		}
	}
}

// wantPower is e of P13.3, of any numbers.
func wantPower(effective uint64, share fraction) uint64 {
	return atMost(up(times(bigOf(effective), bigOf(share.den)), times(bigOf(share.num), power2(31)))).Uint64()
}

// With a share of 1 / 4096 at least no power comes near 2^64 - 1: what is told of it is asked behind that.
func TestP133PowersThatDoNotFit(t *testing.T) {
	words := []uint64{1, 2, 3, 5, 4096, 1<<31 - 1, 1 << 31, 1<<31 + 1, 1 << 32, 1 << 48, 1<<62 + 1, 1<<63 - 1, 1 << 63, m - 1<<31, m - 2, m - 1, m}
	for _, effective := range append(words, 0) {
		for _, num := range words {
			for _, den := range words {
				share := fraction{num, den}
				if e, want := power(effective, share), wantPower(effective, share); e != want {
					t.Fatalf("%d by %v: %d, not %d", effective, share, e, want)
				}
			}
		}
	}
	for _, x := range []struct {
		effective uint64
		share     fraction
		e         uint64
	}{
		{m, fraction{1, 1 << 31}, m},             // just at it
		{m - 1, fraction{1, 1 << 31}, m - 1},     //
		{m - 1, fraction{2, 1<<32 + 1}, m},       // above m - 1 by less than a half: rounded up to it
		{m, fraction{2, 1<<32 + 1}, m},           // above it by hardly more than a half
		{one, fraction{1, 1 << 32}, m},           // one more than it
		{one - 1, fraction{1, 1 << 32}, m - 1},   //
		{m, fraction{1, m}, m},                   //
		{one, fraction{1, 61440 << 48}, m},       // what it would be without the least share
		{one, fraction{1, leastDen}, 1 << 44},    //
		{0, fraction{1, m}, 0},                   //
		{1, fraction{1 << 48, 1}, 1},             //
		{1 << 31, fraction{1 << 48, 1 << 48}, 1}, //
	} {
		if e := power(x.effective, x.share); e != x.e || e != wantPower(x.effective, x.share) {
			t.Errorf("%d by %v: %d, not %d", x.effective, x.share, e, x.e)
		}
	}
	d := &dice{5}
	for range 20000 {
		effective := d.word() >> d.below(64)
		share := fraction{d.word()>>d.below(64) | 1, d.word() >> d.below(64)}
		if e, want := power(effective, share), wantPower(effective, share); e != want {
			t.Fatalf("%d by %v: %d, not %d", effective, share, e, want)
		}
	}
}

func TestP134FactorsAreOneJustWithoutUsage(t *testing.T) {
	c := example()
	// The least usage that is seen anywhere, at one account without any below it: its parent's is the same, its sister's a part of it, rounded down to 0 or not.
	l := kin([3]int{0, 4096}, [3]int{0, 1}, [3]int{1, 1}, [3]int{2, 4096}, [3]int{4, 1})
	seen := 0
	for n := range l {
		for _, u := range []uint64{0, 1, 2, q} {
			k := slices.Clone(l)
			k[n].Usage = u
			_, _, effective, factors := check(t, c, k)
			for i := range k {
				if factors[i] == one && u > 0 {
					t.Errorf("%d has used %d: %d has %d and %d", n, u, i, effective[i], factors[i])
				}
				if u == 0 && factors[i] != one {
					t.Errorf("nothing is used: %d has %d", i, factors[i])
				}
				if factors[i] < one {
					seen++
				}
			}
		}
	}
	if seen == 0 {
		t.Error("nobody has used anything")
	}
}

// With the greatest Floor a usage may be so small that a sister's part of it is 0: then its factor is One.
func TestP134AZeroBesideUsage(t *testing.T) {
	c := with(256, 1<<20, 1)
	l := kin([3]int{0, 4096, 0}, [3]int{0, 1, 0})
	l[1].Usage = 1
	// Floor is 2^60: U is 8, and a 4097th of that is 0.
	_, _, effective, factors := check(t, c, l)
	is(t, "Effective", effective, 8, 8, 0)
	is(t, "Factors", factors, ladder.Half(1), ladder.Half(1), one)
	if ladder.Half(1) >= one {
		t.Error("a usage that is not seen")
	}
}

// moreUsed holds it that no factor is greater if an account has used more.
func moreUsed(t *testing.T, c api.Config, l []api.Account, n int, more uint64) (fell int) {
	t.Helper()
	k := slices.Clone(l)
	k[n].Usage += more
	before, behind := Factors(c, l), Factors(c, k)
	for i := range l {
		if behind[i] > before[i] {
			t.Fatalf("%+v, %+v: %d used %d more: %d has %d, not %d", c, l, n, more, i, behind[i], before[i])
		}
		if behind[i] < before[i] {
			fell++
		}
	}
	return fell
}

func TestP135MoreUsedIsNotBetter(t *testing.T) {
	d := &dice{50}
	fell := 0
	for range 300 {
		c := pick(d, configs())
		floor := config.Floor(c)
		l := within(d, drawnTree(d, d.from(1, 24)), floor-floor/uint64(d.from(2, 9)))
		all := uint64(0)
		for _, a := range l {
			all += a.Usage
		}
		left := floor - all
		for n := range l {
			fell += moreUsed(t, c, l, n, left)
			fell += moreUsed(t, c, l, n, 1+d.word()%left)
			fell += moreUsed(t, c, l, n, 1+uint64(d.below(3))%left)
		}
	}
	if fell < 10000 {
		t.Error("hardly any factor fell:", fell)
	}
}

// Usages of a few units each, one after the other: where rounding is all there is.
func TestP135BySmallSteps(t *testing.T) {
	d := &dice{60}
	for range 40 {
		c := with(256, 1<<20, 1)
		l := drawnTree(d, d.from(2, 10))
		for range 60 {
			n := d.below(len(l))
			moreUsed(t, c, l, n, 1)
			l[n].Usage++
			check(t, c, l)
		}
	}
}

// sisters holds it that the U of sisters are at most their parent's.
func sisters(t *testing.T, c api.Config, l []api.Account) {
	t.Helper()
	f, ok := familyOf(l)
	if !ok {
		t.Fatalf("%+v is refused", l)
	}
	used := f.used(config.Floor(c))
	p := plain{config.Floor(c), l}
	together := make([]*big.Int, len(l))
	for n := range l {
		together[n] = new(big.Int)
		if bigOf(used[n]).Cmp(p.u(n)) != 0 {
			t.Fatalf("%+v: U of %d is %d, not %s", l, n, used[n], p.u(n))
		}
	}
	for n := 1; n < len(l); n++ {
		parent := together[l[n].Parent]
		parent.Add(parent, bigOf(used[n]))
	}
	for n := range l {
		if together[n].Cmp(bigOf(used[n])) > 0 {
			t.Fatalf("%+v: those below %d have %s, and it has %d", l, n, together[n], used[n])
		}
	}
}

func TestP135UOfSisters(t *testing.T) {
	d := &dice{70}
	for range 300 {
		c := pick(d, configs())
		floor := config.Floor(c)
		all := pick(d, []uint64{floor / 3, floor - 1, floor, floor + 1, 3 * floor, 1 << 62, m})
		sisters(t, c, within(d, drawnTree(d, d.from(1, 64)), all))
		sisters(t, c, within(d, greatest(4096, false), all))
	}
}

func TestP136NamesAndClosed(t *testing.T) {
	d := &dice{80}
	for range 200 {
		c := pick(d, configs())
		l := charged(d, drawnTree(d, d.from(1, 64)), config.Floor(c))
		k := slices.Clone(l)
		for n := 1; n < len(k); n++ {
			k[n].Closed = d.below(2) == 0
			number := strconv.Itoa(len(k) - n)
			k[n].Name = pick(d, []string{number, "_" + number, "Root-" + number, strings.Repeat("z", 32-len(number)) + number})
		}
		num, den := Shares(l)
		num2, den2 := Shares(k)
		is(t, "num", num2, num...)
		is(t, "den", den2, den...)
		is(t, "Effective", Effective(c, k), Effective(c, l)...)
		is(t, "Factors", Factors(c, k), Factors(c, l)...)
		check(t, c, k)
	}
	// Names that stand the other way round, and all closed.
	l := four(1*q, 2*q, 3*q, 4*q)
	k := slices.Clone(l)
	k[1].Name, k[2].Name, k[3].Name = "d", "a", "b"
	for n := 1; n < 4; n++ {
		k[n].Closed = true
	}
	is(t, "Factors", Factors(example(), k), Factors(example(), l)...)
}

func TestHandedInStays(t *testing.T) {
	d := &dice{90}
	var lists [][]api.Account
	for range 30 {
		lists = append(lists, charged(d, drawnTree(d, d.from(1, 64)), 400*q))
	}
	for _, refused := range refusedLists() {
		lists = append(lists, refused...)
	}
	for _, l := range lists {
		// Behind its end there are more accounts, which nobody is to see.
		room := append(slices.Clone(l), api.Account{Name: "spare", Parent: 0, Shares: 7, Usage: 8}, api.Account{Name: "more", Parent: 1, Shares: 9, Closed: true})
		before := slices.Clone(room)
		handed := room[:len(l)]
		for _, c := range []api.Config{example(), {}} {
			Shares(handed)
			Effective(c, handed)
			Factors(c, handed)
			if !slices.Equal(room, before) {
				t.Fatalf("%+v is %+v now", before, room)
			}
		}
		if _, e := tree.Load(handed); e == api.OK {
			check(t, example(), handed)
		}
	}
}

// scribble writes over a list, and over the room behind it.
func scribble(l []uint64) {
	l = l[:cap(l)]
	for i := range l {
		l[i] = 0xbad
	}
}

func TestAnswersAreTheCallers(t *testing.T) {
	c := example()
	l := four(10*q, 20*q, 30*q, 40*q)
	calls := []func() [][]uint64{
		func() [][]uint64 { num, den := Shares(l); return [][]uint64{num, den} },
		func() [][]uint64 { return [][]uint64{Effective(c, l)} },
		func() [][]uint64 { return [][]uint64{Factors(c, l)} },
	}
	var want [][]uint64
	for _, call := range calls {
		for _, told := range call() {
			want = append(want, slices.Clone(told))
		}
	}
	all := func() (told [][]uint64) {
		for _, call := range calls {
			told = append(told, call()...)
		}
		return told
	}
	for spoilt := range want {
		first, second := all(), all()
		_ = append(first[spoilt], 1, 2, 3)
		scribble(first[spoilt])
		third := all()
		for i := range want {
			if i != spoilt {
				is(t, "beside it", first[i], want[i]...)
			}
			is(t, "told before", second[i], want[i]...)
			is(t, "told behind", third[i], want[i]...)
		}
	}
	// What is told stays as it was, though the list that was handed in does not.
	told := all()
	for n := range l {
		l[n] = api.Account{Name: "gone", Parent: 9, Usage: m}
	}
	for i := range want {
		is(t, "kept", told[i], want[i]...)
	}
}

func TestR3NilAndEmpty(t *testing.T) {
	for _, l := range [][]api.Account{nil, {}, four()[:0]} {
		noShares(t, l)
		none(t, example(), l)
	}
}

func TestR5AnswersAlike(t *testing.T) {
	d := &dice{95}
	for range 20 {
		c := pick(d, configs())
		l := charged(d, drawnTree(d, 64), config.Floor(c))
		num, den := Shares(l)
		effective, factors := Effective(c, l), Factors(c, l)
		var wait sync.WaitGroup
		for range 8 {
			wait.Go(func() {
				num2, den2 := Shares(l)
				if !slices.Equal(num, num2) || !slices.Equal(den, den2) || !slices.Equal(effective, Effective(c, l)) || !slices.Equal(factors, Factors(c, l)) {
					t.Error("another answer")
				}
			})
		}
		wait.Wait()
	}
}

func FuzzShare(f *testing.F) {
	f.Add(uint64(1), []byte{0, 3, 10, 0, 1, 20, 1, 5, 30})
	f.Add(uint64(2), []byte{1, 1, 1})
	f.Add(uint64(3), []byte{2, 255, 255, 3, 0, 0, 0, 1, 200})
	f.Fuzz(func(t *testing.T, seed uint64, data []byte) {
		d := &dice{seed}
		l := []api.Account{aRoot(drawnUsage(d, 400*q))}
		for i := 0; i+2 < len(data); i += 3 {
			l = append(l, api.Account{Name: "f" + strconv.Itoa(i), Parent: int(data[i]), Shares: int(data[i+1]) * 16, Usage: uint64(data[i+2]) << d.below(64)})
		}
		c := pick(d, configs())
		if _, e := tree.Load(l); e != api.OK {
			noShares(t, l)
			none(t, c, l)
			return
		}
		check(t, c, l)
	})
}

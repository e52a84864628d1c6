package prio

import (
	"math"
	"math/big"
	"math/bits"
	"reflect"
	"slices"
	"strconv"
	"strings"
	"sync"
	"testing"

	"backfill/api"
	"backfill/config"
	"backfill/share"
	"backfill/tree"
)

// The tests hold the package against plain models, by the chapter's words: math/big for numbers, and the limits written as numbers.

const (
	q       = api.QOne
	one     = uint64(1) << 63
	horizon = 1 << 40
)

// mixed goes through numbers without an order, always the same ones.
func mixed(seed uint64) uint64 {
	seed += 0x9e3779b97f4a7c15
	seed = (seed ^ seed>>30) * 0xbf58476d1ce4e5b9
	seed = (seed ^ seed>>27) * 0x94d049bb133111eb
	return seed ^ seed>>31
}

type dice struct{ seed uint64 }

func (d *dice) word() uint64 {
	d.seed++
	return mixed(d.seed)
}

func (d *dice) below(n int) int { return int(d.word() % uint64(n)) }

func (d *dice) from(least, most int) int { return least + d.below(most-least+1) }

func pick[T any](d *dice, l []T) T { return l[d.below(len(l))] }

// plainSort is P14.1 for an order: one after the other, each behind all that it is not before.
func plainSort[T any](l []T, before func(a, b T) bool) []T {
	var out []T
	for _, x := range l {
		at := len(out)
		for at > 0 && before(x, out[at-1]) {
			at--
		}
		out = slices.Insert(out, at, x)
	}
	return out
}

// sorts holds Sort against P14.1, for an order.
func sorts[T comparable](t *testing.T, l []T, before func(a, b T) bool) []T {
	t.Helper()
	handed := slices.Clone(l)
	told := Sort(l, before)
	if !slices.Equal(l, handed) {
		t.Fatalf("%v is %v now", handed, l)
	}
	if want := plainSort(l, before); !slices.Equal(told, want) {
		t.Fatalf("Sort(%v): %v, not %v", l, told, want)
	}
	for i := range told {
		for k := range i {
			if before(told[i], told[k]) {
				t.Fatalf("Sort(%v): %v stands behind %v, and is before it", l, told[i], told[k])
			}
		}
	}
	return told
}

func rising(a, b int) bool { return a < b }

// marked is a value that is sorted by its key alone; the mark tells where it stood.
type marked struct{ key, mark int }

func byKey(a, b marked) bool { return a.key < b.key }

func markedOf(keys []int) []marked {
	l := make([]marked, len(keys))
	for i, key := range keys {
		l[i] = marked{key, i}
	}
	return l
}

// keysOf goes through all lists of so many numbers below most.
func keysOf(count, most int) func(func([]int) bool) {
	return func(yield func([]int) bool) {
		keys := make([]int, count)
		for {
			if !yield(keys) {
				return
			}
			i := 0
			for i < count && keys[i] == most-1 {
				keys[i] = 0
				i++
			}
			if i == count {
				return
			}
			keys[i]++
		}
	}
}

func TestChapterExamples(t *testing.T) {
	if l := sorts(t, []int{3, 1, 2, 1}, rising); !slices.Equal(l, []int{1, 1, 2, 3}) {
		t.Error(l)
	}
	letter := func(a, b string) bool { return a[0] < b[0] }
	if l := sorts(t, []string{"b1", "a1", "b2", "a2"}, letter); !slices.Equal(l, []string{"a1", "a2", "b1", "b2"}) {
		t.Error(l)
	}
	for _, x := range []struct {
		c      api.Config
		job    api.Job
		factor uint64
		want   int
	}{
		{example(), api.Job{Submit: 4, Nodes: 2}, one, 1018},
		{example(), api.Job{Submit: 4, Nodes: 2}, one / 2, 518},
		{example(), api.Job{Submit: 4, Nodes: 2}, 0, 18},
		{example(), api.Job{Submit: 11, Nodes: 2}, 0, 0},
		{example(), api.Job{Submit: 4, Nodes: 5}, 0, 0},
		{api.Config{}, api.Job{Submit: 4, Nodes: 2}, one, 0},
	} {
		if n := Priority(x.c, 10, x.job, x.factor); n != x.want {
			t.Errorf("%+v: %d", x, n)
		}
	}
	s := stateOf(example(), 10, two(0, 0), job(1, 1, 3), job(1, 1, 2), job(1, 1, 1))
	s.Jobs[2].State = api.Running
	ranks(t, s, 1, 0)
}

func TestP141NoneAndOne(t *testing.T) {
	never := func(a, b int) bool { t.Error("asked of", a, b); return true }
	for _, l := range [][]int{nil, {}, make([]int, 0, 2)} {
		if told := Sort(l, never); len(told) != 0 {
			t.Error(told)
		}
	}
	alike := func(a, b int) bool { return false }
	for _, order := range []func(a, b int) bool{rising, alike} {
		if told := sorts(t, []int{7}, order); len(told) != 1 {
			t.Error(told)
		}
	}
}

// All lists of up to six values with up to as many keys, and of up to ten with two: alike ones stand in their order.
func TestP141AllSmallLists(t *testing.T) {
	for count := range 7 {
		for keys := range keysOf(count, max(count, 1)) {
			sorts(t, markedOf(keys), byKey)
		}
	}
	for count := 7; count <= 10; count++ {
		for keys := range keysOf(count, 2) {
			sorts(t, markedOf(keys), byKey)
		}
	}
}

func TestP141AnyLength(t *testing.T) {
	d := &dice{1}
	for count := range 140 {
		up, back, drawn, few := make([]int, count), make([]int, count), make([]int, count), make([]int, count)
		for i := range count {
			up[i], back[i], drawn[i], few[i] = i, count-i, int(d.word()), d.below(4)
		}
		for _, keys := range [][]int{up, back, drawn, few, make([]int, count), append(back, up...), append(up, few...)} {
			sorts(t, markedOf(keys), byKey)
			sorts(t, keys, rising)
		}
	}
}

func TestP141ManyValues(t *testing.T) {
	d := &dice{2}
	for _, most := range []int{2, 50, 1 << 40} {
		l := make([]marked, 30000)
		for i := range l {
			l[i] = marked{d.below(most), i}
		}
		told := Sort(l, byKey)
		want := slices.Clone(l)
		slices.SortStableFunc(want, func(a, b marked) int { return a.key - b.key })
		if !slices.Equal(told, want) {
			t.Error("not sorted:", most)
		}
	}
}

func TestP141SeveralTypes(t *testing.T) {
	sorts(t, []uint64{math.MaxUint64, 0, 1 << 63, 7}, func(a, b uint64) bool { return a < b })
	sorts(t, []int8{-128, 127, 0, -1, 5}, func(a, b int8) bool { return a > b })
	sorts(t, []float64{2.5, math.Inf(1), -1, math.Inf(-1), 0}, func(a, b float64) bool { return a < b })
	sorts(t, []string{"b", "", "ab", "aa", "é", "a\x00", "b"}, func(a, b string) bool { return a < b })
	sorts(t, []string{"ccc", "a", "bb", "dd", "e", ""}, func(a, b string) bool { return len(a) < len(b) })
	sorts(t, []bool{true, false, true, false}, func(a, b bool) bool { return !a && b })
	sorts(t, []api.Rank{{Job: 4, Priority: 1}, {Job: 2, Priority: 9}, {Job: 3, Priority: 9}}, func(a, b api.Rank) bool { return a.Job < b.Job })
	sorts(t, []any{3, "x", nil, 1.5, "y", 2}, func(a, b any) bool { _, x := a.(string); _, y := b.(string); return x && !y })
	sorts(t, []struct{}{{}, {}, {}}, func(a, b struct{}) bool { return false })
	sorts(t, [][2]int{{2, 1}, {1, 2}, {1, 1}}, func(a, b [2]int) bool { return a[0] < b[0] })
	lists := Sort([][]int{{1, 2, 3}, nil, {4}, {5, 6}}, func(a, b []int) bool { return len(a) < len(b) })
	if !reflect.DeepEqual(lists, [][]int{nil, {4}, {5, 6}, {1, 2, 3}}) {
		t.Error(lists)
	}
}

// Pointers are put elsewhere, and what they point to stays where it is: two that point to alike values are still two.
func TestP141Pointers(t *testing.T) {
	values := []int{3, 1, 2, 1, 3, 0}
	l := make([]*int, len(values))
	for i := range l {
		l[i] = &values[i]
	}
	told := sorts(t, l, func(a, b *int) bool { return *a < *b })
	for i, from := range []int{5, 1, 3, 2, 0, 4} {
		if told[i] != &values[from] {
			t.Error("at", i, "is another one than", from)
		}
	}
	sorts(t, []*int{&values[0], nil, &values[1], nil}, func(a, b *int) bool { return a == nil && b != nil })
}

// Orders by which different values are alike: all, the odd and the even ones, those of one tenth.
func TestP141AlikeOnes(t *testing.T) {
	d := &dice{3}
	orders := []func(a, b int) bool{
		func(a, b int) bool { return false },
		func(a, b int) bool { return a%2 < b%2 },
		func(a, b int) bool { return a/10 > b/10 },
		func(a, b int) bool { return a == 50 && b != 50 },
		func(a, b int) bool { return a != 50 && b == 50 },
	}
	for range 200 {
		l := make([]int, d.below(60))
		for i := range l {
			l[i] = d.below(100)
		}
		for _, order := range orders {
			sorts(t, l, order)
		}
		if told := Sort(l, orders[0]); !slices.Equal(told, l) {
			t.Fatal("all are alike:", l, told)
		}
	}
}

// noOrders answer without an order.
func noOrders(d *dice) map[string]func(a, b int) bool {
	turn, calls := false, 0
	return map[string]func(a, b int) bool{
		"always":       func(a, b int) bool { return true },
		"never":        func(a, b int) bool { return false },
		"by turns":     func(a, b int) bool { turn = !turn; return turn },
		"drawn":        func(a, b int) bool { return d.below(2) == 0 },
		"seldom":       func(a, b int) bool { return d.below(9) == 0 },
		"not above":    func(a, b int) bool { return a <= b },
		"round":        func(a, b int) bool { return (a-b+300)%3 == 1 },
		"changes mind": func(a, b int) bool { calls++; return a < b == (calls < 40) },
		"near by":      func(a, b int) bool { return a < b-3 },
	}
}

// mostAsked is how often so many values are asked of at most, if they are sorted by halves.
func mostAsked(count int) int { return count * bits.Len(uint(count)) }

// Whatever is answered: the same values, each as often as it was, and an end.
func TestP141WhatIsNoOrder(t *testing.T) {
	d := &dice{4}
	for count := range 70 {
		for range 4 {
			l := make([]int, count)
			for i := range l {
				l[i] = d.below(1 + d.below(100))
			}
			for name, before := range noOrders(d) {
				asked := 0
				told := Sort(l, func(a, b int) bool {
					asked++
					if !slices.Contains(l, a) || !slices.Contains(l, b) {
						t.Fatalf("%s: asked of %d and %d, of %v", name, a, b, l)
					}
					return before(a, b)
				})
				if asked > mostAsked(count) {
					t.Fatalf("%s: asked %d times of %d values", name, asked, count)
				}
				slices.Sort(told)
				if want := slices.Sorted(slices.Values(l)); !slices.Equal(told, want) {
					t.Fatalf("%s: of %v it is %v", name, want, told)
				}
			}
		}
	}
}

// Before is asked of values of the list alone: each is one that was never made but for it.
func TestP141AskedOfTheListAlone(t *testing.T) {
	d := &dice{5}
	for count := range 50 {
		l := make([]*int, count)
		there := map[*int]bool{}
		for i := range l {
			l[i] = new(d.below(7))
			there[l[i]] = true
		}
		told := Sort(l[:count:count], func(a, b *int) bool {
			if !there[a] || !there[b] {
				t.Fatal("asked of what is not there")
			}
			return *a < *b
		})
		for _, x := range told {
			if !there[x] {
				t.Fatal("told what was not there, or twice")
			}
			delete(there, x)
		}
		if len(there) != 0 {
			t.Fatal("not told:", len(there))
		}
	}
}

// Values that are unlike themselves have no order; they are told all the same.
func TestP141NaN(t *testing.T) {
	l := []float64{3, math.NaN(), 1, math.NaN(), 2}
	nans := 0
	told := Sort(l, func(a, b float64) bool { return a < b })
	for _, x := range told {
		if x != x {
			nans++
		}
	}
	if len(told) != 5 || nans != 2 {
		t.Error(told)
	}
}

// Of a function that is not there nothing can be asked: nobody is before anybody.
func TestP141WithoutAFunction(t *testing.T) {
	for _, l := range [][]int{nil, {1}, {3, 1, 2}} {
		if told := Sort(l, nil); !slices.Equal(told, l) {
			t.Error(told)
		}
	}
}

func TestP141WithinItself(t *testing.T) {
	l := []int{5, 3, 9, 1, 7, 3}
	told := Sort(l, func(a, b int) bool {
		inner := Sort(l, func(x, y int) bool { return x > y })
		return slices.Index(inner, a) > slices.Index(inner, b)
	})
	if !slices.Equal(told, []int{1, 3, 3, 5, 7, 9}) {
		t.Error(told)
	}
}

func TestP141HandedInStays(t *testing.T) {
	d := &dice{6}
	for count := range 40 {
		room := make([]marked, count+5)
		for i := range room {
			room[i] = marked{d.below(9), i}
		}
		before := slices.Clone(room)
		handed := room[:count]
		told := sorts(t, handed, byKey)
		told = append(told, marked{-1, -1})
		for i := range told {
			told[i] = marked{-2, -2}
		}
		if !slices.Equal(room, before) {
			t.Fatalf("%v is %v now", before, room)
		}
	}
}

func TestP141ToldIsTheCallers(t *testing.T) {
	l := []int{4, 2, 3, 1}
	want := []int{1, 2, 3, 4}
	first, second := Sort(l, rising), Sort(l, rising)
	_ = append(first, 8, 9)
	room := first[:cap(first)]
	for i := range room {
		room[i] = 0xbad
	}
	third := Sort(l, rising)
	clear(l)
	if !slices.Equal(second, want) || !slices.Equal(third, want) {
		t.Error(second, third)
	}
	if told := Sort([]int{1, 2}, rising); !slices.Equal(told, []int{1, 2}) {
		t.Error(told)
	}
	// In order already, and of one value: told is new memory still.
	for _, l := range [][]int{{1, 2, 3}, {1}} {
		told := Sort(l, rising)
		told[0] = 9
		if l[0] != 1 {
			t.Error("the list that was handed in is told")
		}
	}
}

// example is the chapter's config.
func example() api.Config {
	return api.Config{Nodes: 4, Queue: 8, Limit: 10, Age: 2, Fair: 1000, Size: 3, Period: 100, Half: 100}
}

// least and most have the least and the greatest numbers with which a config is taken.
func least() api.Config {
	return api.Config{Nodes: 1, Queue: 1, Limit: 1, Age: 1, Fair: 0, Size: 0, Period: 1, Half: 1}
}

func most() api.Config {
	return api.Config{Nodes: 256, Queue: 128, Limit: 1 << 20, Age: 1 << 20, Fair: 1 << 20, Size: 1 << 20, Period: 1 << 20, Half: 1 << 22}
}

// configs that may be.
func configs() []api.Config {
	fairAlone, sizeAlone, young := most(), most(), most()
	fairAlone.Age, fairAlone.Size = 1, 0
	sizeAlone.Fair, sizeAlone.Age = 0, 7
	young.Age = 1
	return []api.Config{
		example(), least(), most(), fairAlone, sizeAlone, young,
		{Nodes: 3, Queue: 5, Limit: 7, Age: 3, Fair: 999, Size: 1, Period: 77, Half: 50},
		{Nodes: 255, Queue: 127, Limit: 1001, Age: 11, Fair: 12345, Size: 0, Period: 1009, Half: 13},
	}
}

// drawnConfig is one that config.Check takes.
func drawnConfig(d *dice) api.Config {
	weight := func() int { return d.from(0, 1<<d.below(21)) }
	for {
		c := api.Config{
			Nodes: d.from(1, 1<<d.below(9)), Queue: d.from(1, 128), Limit: d.from(1, 1<<d.below(21)),
			Age: 1 + d.below(1<<d.below(21)), Fair: weight(), Size: weight(),
			Period: d.from(1, 1<<d.below(21)), Half: d.from(1, 1<<d.below(31)),
		}
		if config.Check(c) == api.OK {
			return c
		}
	}
}

// refusedConfigs are configs that config.Check refuses, by its error. (None that it can be handed has ErrConfigScale.)
func refusedConfigs() map[api.Errno][]api.Config {
	other := func(change func(c *api.Config)) api.Config {
		c := example()
		change(&c)
		return c
	}
	return map[api.Errno][]api.Config{
		api.ErrConfigRange: {
			{},
			other(func(c *api.Config) { c.Nodes = 0 }),
			other(func(c *api.Config) { c.Nodes = 257 }),
			other(func(c *api.Config) { c.Queue = 0 }),
			other(func(c *api.Config) { c.Queue = 129 }),
			other(func(c *api.Config) { c.Limit = -1 }),
			other(func(c *api.Config) { c.Limit = 1<<20 + 1 }),
			other(func(c *api.Config) { c.Age = 0 }),
			other(func(c *api.Config) { c.Age = 1<<20 + 1 }),
			other(func(c *api.Config) { c.Fair = -1 }),
			other(func(c *api.Config) { c.Fair = 1<<20 + 1 }),
			other(func(c *api.Config) { c.Size = math.MinInt }),
			other(func(c *api.Config) { c.Size = 1<<20 + 1 }),
			other(func(c *api.Config) { c.Period = 0 }),
			other(func(c *api.Config) { c.Period = 1<<20 + 1 }),
			other(func(c *api.Config) { c.Half = 0 }),
			other(func(c *api.Config) { c.Half = math.MaxInt }),
		},
		api.ErrConfigUsage: {
			other(func(c *api.Config) { c.Period, c.Half = 1, 1<<30 }),
			other(func(c *api.Config) { c.Nodes, c.Period, c.Half = 256, 1<<20, 1<<30 }),
		},
		api.ErrConfigError: {
			other(func(c *api.Config) { c.Fair, c.Age, c.Size = 1, 1, 0 }),
			other(func(c *api.Config) { c.Fair, c.Age, c.Queue, c.Limit = 1, 1, 1, 1 }),
		},
	}
}

// wantPriority is P14.2, in whole numbers without an edge.
func wantPriority(c api.Config, now int, j api.Job, factor uint64) int {
	if config.Check(c) != api.OK || now < 0 || now > 1<<40 || j.Submit < 0 || j.Submit > now || j.Nodes < 1 || j.Nodes > c.Nodes || factor > 1<<63 {
		return 0
	}
	number := func(n int) *big.Int { return big.NewInt(int64(n)) }
	age := new(big.Int).Mul(number(c.Age), number(now-j.Submit))
	fair := new(big.Int).Mul(number(c.Fair), new(big.Int).SetUint64(factor))
	fair.Div(fair, new(big.Int).Lsh(number(1), 63))
	size := new(big.Int).Mul(number(c.Size), number(j.Nodes))
	sum := age.Add(age, fair)
	sum.Add(sum, size)
	if sum.BitLen() > 62 {
		panic("above the scale")
	}
	return int(sum.Int64())
}

func priority(t *testing.T, c api.Config, now int, j api.Job, factor uint64) int {
	t.Helper()
	told := Priority(c, now, j, factor)
	if want := wantPriority(c, now, j, factor); told != want {
		t.Fatalf("Priority(%+v, %d, %+v, %d): %d, not %d", c, now, j, factor, told, want)
	}
	return told
}

func factorsAround() []uint64 {
	return []uint64{0, 1, 1<<32 - 1, one / 3, one / 2, one - 1, one, one + 1, math.MaxUint64}
}

// Both ends of each range and just beyond, each with each.
func TestP142Ranges(t *testing.T) {
	above := 0
	for _, c := range configs() {
		for _, now := range []int{math.MinInt, -1, 0, 1, 2, horizon - 1, horizon, horizon + 1, math.MaxInt} {
			for _, submit := range []int{math.MinInt, -1, 0, 1, now - 1, now, now + 1, horizon, horizon + 1, math.MaxInt} {
				for _, nodes := range []int{math.MinInt, -1, 0, 1, c.Nodes - 1, c.Nodes, c.Nodes + 1, 257, math.MaxInt} {
					for _, factor := range factorsAround() {
						if priority(t, c, now, api.Job{Submit: submit, Nodes: nodes}, factor) > 0 {
							above++
						}
					}
				}
			}
		}
	}
	if above < 1000 {
		t.Error("hardly any is above 0:", above)
	}
}

// What P14.2 names, one at a time out of its range.
func TestP142JustBeyond(t *testing.T) {
	c := example()
	for _, x := range []struct {
		now, submit, nodes int
		factor             uint64
		want               int
	}{
		{0, 0, 1, 0, 3},
		{0, 0, 4, one, 1012},
		{-1, 0, 1, 0, 0},
		{-1, -1, 1, 0, 0},
		{horizon, 0, 4, one, 1<<41 + 1012},
		{horizon, horizon, 4, one, 1012},
		{horizon + 1, 0, 4, one, 0},
		{horizon + 1, horizon + 1, 4, one, 0},
		{10, 0, 1, 0, 23},
		{10, -1, 1, 0, 0},
		{10, 10, 1, 0, 3},
		{10, 11, 1, 0, 0},
		{10, 10, 0, one, 0},
		{10, 10, -1, one, 0},
		{10, 10, 4, one, 1012},
		{10, 10, 5, one, 0},
		{10, 10, 4, one + 1, 0},
		{10, 10, 4, math.MaxUint64, 0},
	} {
		if n := priority(t, c, x.now, api.Job{Submit: x.submit, Nodes: x.nodes}, x.factor); n != x.want {
			t.Errorf("%+v: %d", x, n)
		}
	}
}

func TestP142ConfigsThatAreRefused(t *testing.T) {
	if len(refusedConfigs()) != 3 {
		t.Fatal(len(refusedConfigs()))
	}
	for want, cs := range refusedConfigs() {
		for _, c := range cs {
			if e := config.Check(c); e != want {
				t.Fatalf("%+v: %d, not %d", c, e, want)
			}
			for _, nodes := range []int{0, 1, 2, 257} {
				for _, factor := range factorsAround() {
					if n := Priority(c, 10, api.Job{Submit: 4, Nodes: nodes}, factor); n != 0 {
						t.Errorf("%+v: %d", c, n)
					}
				}
			}
		}
	}
}

// Fair times the factor where it is whole, and where it is rounded down by very little or very much.
func TestP142Rounding(t *testing.T) {
	c := example()
	j := api.Job{Submit: 10, Nodes: 1}
	for _, x := range []struct {
		factor uint64
		want   int
	}{
		{0, 0}, {1, 0},
		{one / 1000, 0}, {one/1000 + 1, 1}, // a thousandth of 2^63 is not whole
		{one / 8, 125}, {one/8 - 1, 124}, {one/8 + 1, 125},
		{one / 2, 500}, {one/2 - 1, 499}, {one/2 + 1, 500},
		{one / 3, 333}, {one / 3 * 2, 666},
		{one - 1, 999}, {one, 1000},
	} {
		if n := priority(t, c, 10, j, x.factor); n != x.want+3 {
			t.Errorf("%d: %d", x.factor, n)
		}
	}
	// With a Fair of 2^20 each 2^43 of a factor are one more.
	c = most()
	c.Size = 0
	for _, n := range []uint64{1, 2, 1<<19 + 1, 1<<20 - 1, 1 << 20} {
		if told := priority(t, c, 10, j, n<<43); told != int(n) {
			t.Error(n, told)
		}
		if told := priority(t, c, 10, j, n<<43-1); told != int(n)-1 {
			t.Error(n, told)
		}
	}
	d := &dice{10}
	for range 3000 {
		priority(t, drawnConfig(d), 10, api.Job{Submit: d.below(11), Nodes: 1}, d.word()>>d.from(1, 63))
	}
}

func TestP142TheGreatest(t *testing.T) {
	c := most()
	if n := priority(t, c, horizon, api.Job{Nodes: 256}, one); n != 1<<60+1<<20+1<<28 || n >= 1<<62 {
		t.Error(n)
	}
	if n := priority(t, c, horizon, api.Job{Nodes: 256}, one-1); n != 1<<60+1<<20-1+1<<28 {
		t.Error(n)
	}
	if n := priority(t, least(), 0, api.Job{Nodes: 1}, one); n != 0 {
		t.Error(n)
	}
}

func TestP142Drawn(t *testing.T) {
	d := &dice{11}
	for range 20000 {
		c := drawnConfig(d)
		now := d.from(0, 1<<d.below(41))
		j := api.Job{Submit: d.from(0, now), Nodes: d.from(1, c.Nodes)}
		priority(t, c, now, j, d.word()>>1+d.word()%2)
	}
}

// Of a job its Submit and its Nodes alone are looked at.
func TestP142OtherFields(t *testing.T) {
	d := &dice{12}
	c := example()
	for range 500 {
		j := api.Job{Submit: d.from(-1, 11), Nodes: d.from(0, 5)}
		k := j
		k.Account, k.Limit, k.State = int(d.word()), int(d.word()), d.from(-1, 7)
		k.Start, k.End, k.Set = int(d.word()), int(d.word()), []int{3, 2, -1}
		factor := d.word() >> 1
		if a, b := priority(t, c, 10, j, factor), priority(t, c, 10, k, factor); a != b {
			t.Errorf("%+v: %d, not %d", k, b, a)
		}
		if !slices.Equal(k.Set, []int{3, 2, -1}) {
			t.Error(k.Set)
		}
	}
}

func account(name string, parent, shares int, usage uint64) api.Account {
	return api.Account{Name: name, Parent: parent, Shares: shares, Usage: usage}
}

// two are the root and two accounts below it with such usages.
func two(a, b uint64) []api.Account {
	return []api.Account{account("root", -1, 1, 0), account("a", 0, 3, a), account("b", 0, 1, b)}
}

func job(account, nodes, submit int) api.Job {
	return api.Job{Account: account, Nodes: nodes, Limit: 1, Submit: submit, State: api.Pending}
}

func stateOf(c api.Config, now int, accounts []api.Account, jobs ...api.Job) api.State {
	return api.State{Config: c, Now: now, Accounts: accounts, Jobs: jobs, Holder: -1}
}

// wantRanks is P14.3: each time the best of those that are left, looked for from the smallest number on.
func wantRanks(s api.State) []api.Rank {
	if config.Check(s.Config) != api.OK {
		return nil
	}
	factors := share.Factors(s.Config, s.Accounts)
	if len(s.Accounts) == 0 || len(factors) != len(s.Accounts) {
		return nil
	}
	var left, out []api.Rank
	for n, j := range s.Jobs {
		if j.State == 1 && j.Account >= 0 && j.Account <= len(s.Accounts)-1 {
			left = append(left, api.Rank{Job: n, Priority: wantPriority(s.Config, s.Now, j, factors[j.Account])})
		}
	}
	for len(left) > 0 {
		best := 0
		for i, r := range left {
			if r.Priority > left[best].Priority {
				best = i
			}
		}
		out = append(out, left[best])
		left = slices.Delete(left, best, best+1)
	}
	return out
}

// checkRanks holds Ranks against P14.3, and what follows of it.
func checkRanks(t *testing.T, s api.State) []api.Rank {
	t.Helper()
	told := Ranks(s)
	if want := wantRanks(s); !slices.Equal(told, want) {
		t.Fatalf("Ranks(%+v): %v, not %v", s, told, want)
	}
	elders(t, s, told)
	return told
}

// elders holds it that of one account's jobs of one size the elder one is never behind.
func elders(t *testing.T, s api.State, told []api.Rank) {
	t.Helper()
	for i, r := range told {
		for _, ahead := range told[:i] {
			a, b := s.Jobs[ahead.Job], s.Jobs[r.Job]
			if ahead.Priority > 0 && r.Priority > 0 && a.Account == b.Account && a.Nodes == b.Nodes && a.Submit > b.Submit {
				t.Fatalf("%+v: %d is behind %d, and is the elder one", s, r.Job, ahead.Job)
			}
			if ahead.Priority < r.Priority || ahead.Priority == r.Priority && ahead.Job >= r.Job {
				t.Fatalf("%+v: %v stands ahead of %v", s, ahead, r)
			}
		}
	}
}

// ranks holds it that these jobs are told, in this order.
func ranks(t *testing.T, s api.State, jobs ...int) []api.Rank {
	t.Helper()
	told := checkRanks(t, s)
	var numbers []int
	for _, r := range told {
		numbers = append(numbers, r.Job)
	}
	if !slices.Equal(numbers, jobs) {
		t.Fatalf("%v, not %v", told, jobs)
	}
	return told
}

func TestP143NoJob(t *testing.T) {
	ranks(t, stateOf(example(), 10, two(0, 0)))
	s := stateOf(example(), 10, two(0, 0))
	s.Jobs = []api.Job{}
	ranks(t, s)
	if l := Ranks(api.State{}); len(l) != 0 {
		t.Error(l)
	}
}

// Only those that are Pending.
func TestP143EachState(t *testing.T) {
	var jobs []api.Job
	for _, state := range []int{0, 1, 2, 3, 4, 5, 6, 7, -1, 1, math.MaxInt, math.MinInt, 257} {
		j := job(1, 2, 3)
		j.State = state
		jobs = append(jobs, j)
	}
	ranks(t, stateOf(example(), 10, two(0, 0), jobs...), 1, 9)
	for n := range jobs {
		if alone := stateOf(example(), 10, two(0, 0), jobs[n]); jobs[n].State == api.Pending {
			ranks(t, alone, 0)
		} else {
			ranks(t, alone)
		}
	}
}

// Accounts that there are not, and the root, which is one.
func TestP143Accounts(t *testing.T) {
	var jobs []api.Job
	for _, account := range []int{-1, 0, 1, 2, 3, 4, math.MinInt, math.MaxInt, 64, 2} {
		jobs = append(jobs, job(account, 1, 3))
	}
	ranks(t, stateOf(example(), 10, two(0, 0), jobs...), 1, 2, 3, 9)
	ranks(t, stateOf(example(), 10, two(0, 0)[:1], jobs...), 1)
	// What lies behind the end of the list is no account.
	room := two(0, 0)
	ranks(t, stateOf(example(), 10, room[:2], jobs...), 1, 2)
}

// A job that Priority tells 0 of is told, with that, behind the others.
func TestP143PriorityZero(t *testing.T) {
	s := stateOf(example(), 10, two(0, 0), job(1, 5, 3), job(1, 1, 11), job(1, 1, 10), job(1, 0, 3), job(1, 1, -1), job(2, 4, 0))
	told := ranks(t, s, 5, 2, 0, 1, 3, 4)
	for i, r := range told {
		if (r.Priority == 0) != (i >= 2) {
			t.Error(told)
		}
	}
	// A clock that is none: all of them.
	for _, now := range []int{-1, horizon + 1, math.MinInt, math.MaxInt} {
		s.Now = now
		for _, r := range ranks(t, s, 0, 1, 2, 3, 4, 5) {
			if r.Priority != 0 {
				t.Error(now, r)
			}
		}
	}
}

func TestP143RefusedConfigs(t *testing.T) {
	for _, cs := range refusedConfigs() {
		for _, c := range cs {
			for _, accounts := range [][]api.Account{two(0, 0), two(q, 2*q)[:1], nil} {
				ranks(t, stateOf(c, 10, accounts, job(1, 1, 3), job(0, 1, 2)))
			}
		}
	}
}

func TestP143RefusedAccounts(t *testing.T) {
	other := func(change func(l []api.Account)) []api.Account {
		l := append(two(q, 2*q), account("d", 1, 5, 3*q))
		change(l)
		return l
	}
	many := []api.Account{account("root", -1, 1, 0)}
	for len(many) < 65 {
		many = append(many, account("m"+strconv.Itoa(len(many)), 0, 1, 0))
	}
	deep := []api.Account{account("root", -1, 1, 0)}
	for len(deep) < 6 {
		deep = append(deep, account("d"+strconv.Itoa(len(deep)), len(deep)-1, 1, 0))
	}
	lists := map[api.Errno][]api.Account{
		api.ErrTreeRoot:   other(func(l []api.Account) { l[0].Shares = 2 }),
		api.ErrTreeMany:   many,
		api.ErrTreeName:   other(func(l []api.Account) { l[2].Name = strings.Repeat("x", 33) }),
		api.ErrTreeThere:  other(func(l []api.Account) { l[3].Name = "a" }),
		api.ErrTreeNone:   other(func(l []api.Account) { l[3].Parent = 4 }),
		api.ErrTreeShares: other(func(l []api.Account) { l[2].Shares = 0 }),
		api.ErrTreeBelow:  other(func(l []api.Account) { l[1].Parent = 3 }),
		api.ErrTreeDeep:   deep,
	}
	for want, l := range lists {
		if _, e := tree.Load(l); e != want {
			t.Fatalf("%+v: %d, not %d", l, e, want)
		}
		ranks(t, stateOf(example(), 10, l, job(0, 1, 3), job(1, 1, 2)))
	}
	for _, l := range [][]api.Account{nil, {}, two(0, 0)[1:], append(two(0, 0), two(0, 0)[0])} {
		ranks(t, stateOf(example(), 10, l, job(0, 1, 3), job(1, 1, 2)))
	}
	ranks(t, stateOf(example(), 10, many[:64], job(0, 1, 3), job(63, 1, 2), job(64, 1, 1)), 1, 0)
	ranks(t, stateOf(example(), 10, deep[:5], job(0, 1, 3), job(4, 1, 2), job(5, 1, 1)), 1, 0)
}

// Alike priorities: the smaller number first, however they come about.
func TestP143AlikePriorities(t *testing.T) {
	jobs := make([]api.Job, 200)
	numbers := make([]int, len(jobs))
	for n := range jobs {
		jobs[n], numbers[n] = job(n%3, 2, 4), n
	}
	s := stateOf(example(), 10, two(0, 0), jobs...)
	ranks(t, s, numbers...)
	// Three nodes are 9, and one node is 3 and three ticks older 6 more.
	s = stateOf(example(), 10, two(0, 0), job(1, 1, 1), job(1, 3, 4), job(1, 1, 0), job(2, 1, 1), job(2, 3, 4), job(1, 4, 4))
	ranks(t, s, 5, 2, 0, 1, 3, 4)
}

// Who has used less of their share is first.
func TestP143Factors(t *testing.T) {
	c := example()
	jobs := []api.Job{job(1, 1, 4), job(2, 1, 4), job(0, 1, 4)}
	// a has 3 shares and b 1: with as much used by each, b is behind; the root has all of both.
	ranks(t, stateOf(c, 10, two(50*q, 50*q), jobs...), 2, 0, 1)
	ranks(t, stateOf(c, 10, two(300*q, 10*q), jobs...), 2, 1, 0)
	ranks(t, stateOf(c, 10, two(0, 0), jobs...), 0, 1, 2)
	told := ranks(t, stateOf(c, 10, two(0, 100*q), jobs...), 0, 2, 1)
	factors := share.Factors(c, two(0, 100*q))
	for _, r := range told {
		if want := wantPriority(c, 10, jobs[r.Job], factors[jobs[r.Job].Account]); r.Priority != want {
			t.Error(r, want)
		}
	}
}

// Holder, and what belongs to no priority, are not seen.
func TestP143WhatIsNotSeen(t *testing.T) {
	s := stateOf(example(), 10, two(3*q, 4*q), job(1, 1, 3), job(2, 2, 2), job(1, 3, 9))
	want := checkRanks(t, s)
	for _, holder := range []int{-2, 0, 2, 7} {
		s.Holder = holder
		if told := checkRanks(t, s); !slices.Equal(told, want) {
			t.Error(holder, told)
		}
	}
	for n := range s.Jobs {
		s.Jobs[n].Limit, s.Jobs[n].Start, s.Jobs[n].End, s.Jobs[n].Set = -n, 5, 99, []int{n, n, -1}
	}
	s.Accounts[1].Closed = true
	if told := checkRanks(t, s); !slices.Equal(told, want) {
		t.Error(told)
	}
}

func drawnAccounts(d *dice, floor uint64) []api.Account {
	l := []api.Account{account("root", -1, 1, 0)}
	deep := []int{0}
	for count := d.from(1, 1<<d.below(7)); len(l) < count; {
		parent := d.below(len(l))
		if deep[parent] < 4 {
			l = append(l, account("n"+strconv.Itoa(len(l)), parent, d.from(1, 1<<d.below(13)), 0))
			deep = append(deep, deep[parent]+1)
		}
	}
	for n := range l {
		switch d.below(4) {
		case 0:
			l[n].Usage = d.word() >> d.below(64)
		case 1, 2:
			l[n].Usage = d.word() % (floor/uint64(len(l)) + 1)
		}
	}
	return l
}

// drawnState has jobs of all kinds, of which many have a rank, and many are alike.
func drawnState(d *dice) api.State {
	c := drawnConfig(d)
	if d.below(3) == 0 {
		c = pick(d, configs())
	}
	now := d.from(0, 1<<d.below(41))
	if d.below(20) == 0 {
		now = pick(d, []int{-1, horizon, horizon + 1})
	}
	s := stateOf(c, now, drawnAccounts(d, config.Floor(c)))
	for range d.below(1 << d.below(8)) {
		submit := d.from(0, max(now, 0))
		if d.below(2) == 0 {
			submit = max(now, 0) - min(d.below(4), max(now, 0))
		}
		j := job(d.below(len(s.Accounts)), d.from(1, c.Nodes), submit)
		switch d.below(12) {
		case 0:
			j.Account = pick(d, []int{-1, len(s.Accounts), math.MaxInt, math.MinInt})
		case 1:
			j.Nodes = pick(d, []int{0, -1, c.Nodes + 1, math.MaxInt})
		case 2:
			j.Submit = pick(d, []int{-1, now + 1, math.MaxInt, math.MinInt})
		case 3, 4, 5:
			j.State = d.from(-1, 7)
		}
		s.Jobs = append(s.Jobs, j)
	}
	return s
}

func TestP143DrawnStates(t *testing.T) {
	d := &dice{20}
	told, alike := 0, 0
	for range 4000 {
		l := checkRanks(t, drawnState(d))
		told += len(l)
		for i := 1; i < len(l); i++ {
			if l[i-1].Priority == l[i].Priority {
				alike++
			}
		}
	}
	if told < 10000 || alike < 1000 {
		t.Error("hardly any ranks:", told, alike)
	}
}

// leadOf is W4's D.
func leadOf(c api.Config) int { return (c.Fair + c.Size*c.Nodes) / c.Age }

// Lead + 1 ticks behind and more: the other one's is the greater one, with what is worst for it and best for this one, and with others.
func TestP144Age(t *testing.T) {
	d := &dice{30}
	held := 0
	for range 4000 {
		c := drawnConfig(d)
		if d.below(4) == 0 {
			c = pick(d, configs())
		}
		if leadOf(c) != config.Lead(c) {
			t.Fatalf("%+v: %d", c, config.Lead(c))
		}
		far := leadOf(c) + 1
		for _, behind := range []int{far, far + 1, far + d.below(1000), far + d.below(1<<d.from(0, 39))} {
			first := d.from(0, 1<<d.below(40))
			for _, submit := range []int{0, first, horizon - behind} {
				if submit < 0 || submit+behind > horizon {
					continue
				}
				later := submit + behind
				for _, now := range []int{later, later + 1, d.from(later, horizon), horizon} {
					if now <= horizon {
						ahead(t, d, c, now, submit, later)
						held++
					}
				}
			}
		}
	}
	if held < 20000 {
		t.Error("hardly asked:", held)
	}
}

func ahead(t *testing.T, d *dice, c api.Config, now, submit, later int) {
	t.Helper()
	for _, factors := range [][2]uint64{{0, one}, {0, 0}, {one, one}, {one, 0}, {d.word() >> 1, d.word() >> 1}} {
		for _, nodes := range [][2]int{{1, c.Nodes}, {c.Nodes, 1}, {d.from(1, c.Nodes), d.from(1, c.Nodes)}} {
			a := Priority(c, now, api.Job{Submit: submit, Nodes: nodes[0]}, factors[0])
			b := Priority(c, now, api.Job{Submit: later, Nodes: nodes[1]}, factors[1])
			if a <= b {
				t.Fatalf("%+v at %d: submitted at %d, %d nodes, %d: %d; at %d, %d nodes, %d: %d", c, now, submit, nodes[0], factors[0], a, later, nodes[1], factors[1], b)
			}
		}
	}
}

// Just Lead ticks behind, and the other one's is not always the greater one.
func TestP144JustLead(t *testing.T) {
	c := example()
	c.Size = 0
	if config.Lead(c) != 500 {
		t.Fatal(config.Lead(c))
	}
	for behind, want := range map[int]int{499: -2, 500: 0, 501: 2} {
		a := priority(t, c, 1000, api.Job{Submit: 100, Nodes: 1}, 0)
		b := priority(t, c, 1000, api.Job{Submit: 100 + behind, Nodes: 4}, one)
		if a-b != want {
			t.Error(behind, a, b)
		}
	}
}

// Where P14.4 bears on Ranks: whoever is far enough behind is behind.
func TestP144Ranks(t *testing.T) {
	d := &dice{31}
	for range 300 {
		c := drawnConfig(d)
		far := leadOf(c) + 1
		accounts := drawnAccounts(d, config.Floor(c))
		now := far + d.below(1000)
		if now > horizon {
			continue
		}
		early := d.from(0, now-far)
		s := stateOf(c, now, accounts, job(d.below(len(accounts)), d.from(1, c.Nodes), early+far), job(d.below(len(accounts)), d.from(1, c.Nodes), early))
		ranks(t, s, 1, 0)
	}
}

// Priority does not fall as now rises, nor as the factor does.
func TestP145DoesNotFall(t *testing.T) {
	d := &dice{40}
	rose := 0
	for range 3000 {
		c := drawnConfig(d)
		now := d.from(0, horizon-1)
		j := api.Job{Submit: d.from(0, now), Nodes: d.from(1, c.Nodes)}
		factor := d.word() >> 1
		here := priority(t, c, now, j, factor)
		for _, then := range []int{now + 1, d.from(now, horizon), horizon} {
			if there := priority(t, c, then, j, factor); there < here+c.Age*(then-now) {
				t.Fatalf("%+v, %+v: %d at %d, %d at %d", c, j, here, now, there, then)
			}
		}
		for _, greater := range []uint64{factor + 1, factor + d.word()%(one-factor+1), one} {
			there := priority(t, c, now, j, greater)
			if there < here {
				t.Fatalf("%+v, %+v: %d of %d, %d of %d", c, j, here, factor, there, greater)
			}
			if there > here {
				rose++
			}
		}
	}
	if rose < 1000 {
		t.Error("hardly any rose:", rose)
	}
}

// Of two jobs of one account the elder one of the same size is never behind: of alike clocks too, as it has the smaller number.
func TestP145Elders(t *testing.T) {
	d := &dice{41}
	for range 2000 {
		c := drawnConfig(d)
		now := d.from(0, horizon)
		elder := d.from(0, now)
		younger := d.from(elder, now)
		nodes := d.from(1, c.Nodes)
		factor := d.word() >> 1
		a := priority(t, c, now, api.Job{Submit: elder, Nodes: nodes}, factor)
		b := priority(t, c, now, api.Job{Submit: younger, Nodes: nodes}, factor)
		if a < b {
			t.Fatalf("%+v: %d and %d", c, a, b)
		}
		accounts := drawnAccounts(d, config.Floor(c))
		n := d.below(len(accounts))
		ranks(t, stateOf(c, now, accounts, job(n, nodes, elder), job(n, nodes, younger)), 0, 1)
		if elder < younger {
			ranks(t, stateOf(c, now, accounts, job(n, nodes, younger), job(n, nodes, elder)), 1, 0)
		}
	}
}

// Each such job once; it is what Sort makes of them by their priorities, in whatever order it is handed them, if of alike ones the number is asked.
func TestP146RanksAreSorted(t *testing.T) {
	d := &dice{50}
	for range 1500 {
		s := drawnState(d)
		factors := share.Factors(s.Config, s.Accounts)
		var l []api.Rank
		for n, j := range s.Jobs {
			if j.State == api.Pending && j.Account >= 0 && j.Account < len(s.Accounts) {
				l = append(l, api.Rank{Job: n, Priority: Priority(s.Config, s.Now, j, factors[j.Account])})
			}
		}
		told := checkRanks(t, s)
		if want := Sort(l, func(a, b api.Rank) bool { return a.Priority > b.Priority }); !slices.Equal(told, want) {
			t.Fatalf("%v, not %v", told, want)
		}
		slices.Reverse(l)
		want := Sort(l, func(a, b api.Rank) bool {
			return a.Priority > b.Priority || a.Priority == b.Priority && a.Job < b.Job
		})
		if !slices.Equal(told, want) {
			t.Fatalf("%v, not %v", told, want)
		}
		once := map[int]bool{}
		for _, r := range told {
			if once[r.Job] || s.Jobs[r.Job].State != api.Pending {
				t.Fatalf("%v: %d", told, r.Job)
			}
			once[r.Job] = true
		}
		if len(once) != len(l) {
			t.Fatalf("%d, not %d", len(once), len(l))
		}
	}
}

// deepCopy is a state that shares no memory with the other one.
func deepCopy(s api.State) api.State {
	s.Accounts, s.Jobs = slices.Clone(s.Accounts), slices.Clone(s.Jobs)
	for n := range s.Jobs {
		s.Jobs[n].Set = slices.Clone(s.Jobs[n].Set)
	}
	return s
}

func TestHandedInStays(t *testing.T) {
	d := &dice{60}
	for i := range 200 {
		s := drawnState(d)
		if i%10 == 0 {
			s.Config.Age = 0
		}
		for n := range s.Jobs {
			s.Jobs[n].Set = []int{n, d.below(9), 7}[:2]
		}
		// Behind the ends of both lists there is more, which nobody is to see.
		s.Accounts = append(s.Accounts, account("spare", 0, 7, 8))
		s.Jobs = append(s.Jobs, job(0, 1, 0), job(1, 1, 0))
		whole := deepCopy(s)
		handed := s
		handed.Accounts, handed.Jobs = s.Accounts[:len(s.Accounts)-1], s.Jobs[:len(s.Jobs)-2]
		checkRanks(t, handed)
		for _, j := range handed.Jobs {
			Priority(s.Config, s.Now, j, one)
		}
		if !reflect.DeepEqual(s, whole) {
			t.Fatalf("%+v is %+v now", whole, s)
		}
	}
}

func TestAnswersAreTheCallers(t *testing.T) {
	s := stateOf(example(), 10, two(3*q, 4*q), job(1, 1, 3), job(2, 2, 2), job(1, 3, 9))
	want := slices.Clone(checkRanks(t, s))
	first, second := Ranks(s), Ranks(s)
	_ = append(first, api.Rank{Job: 7}, api.Rank{Job: 8})
	room := first[:cap(first)]
	for i := range room {
		room[i] = api.Rank{Job: 0xbad, Priority: -1}
	}
	third := Ranks(s)
	clear(s.Jobs)
	clear(s.Accounts)
	if !slices.Equal(second, want) || !slices.Equal(third, want) {
		t.Error(second, third)
	}
}

func TestR5AnswersAlike(t *testing.T) {
	d := &dice{70}
	for range 20 {
		s := drawnState(d)
		want := Ranks(s)
		l := make([]int, 300)
		for i := range l {
			l[i] = d.below(50)
		}
		sorted := Sort(l, rising)
		var wait sync.WaitGroup
		for range 8 {
			wait.Go(func() {
				if !slices.Equal(want, Ranks(s)) || !slices.Equal(sorted, Sort(l, rising)) {
					t.Error("another answer")
				}
			})
		}
		wait.Wait()
	}
}

// FuzzSort sorts bytes by their upper halves, and by answers that are taken from other bytes.
func FuzzSort(f *testing.F) {
	f.Add([]byte{3, 1, 2, 1}, []byte{1, 0})
	f.Add([]byte{0x21, 0x11, 0x22, 0x12}, []byte{})
	f.Fuzz(func(t *testing.T, l, answers []byte) {
		sorts(t, l, func(a, b byte) bool { return a>>4 < b>>4 })
		asked := 0
		told := Sort(l, func(a, b byte) bool {
			asked++
			return asked <= len(answers) && answers[asked-1]&1 == 1
		})
		slices.Sort(told)
		if !slices.Equal(told, slices.Sorted(slices.Values(l))) || asked > mostAsked(len(l)) {
			t.Fatalf("Sort(%v): %v, asked %d times", l, told, asked)
		}
	})
}

// FuzzPriority holds any numbers whatever against the model.
func FuzzPriority(f *testing.F) {
	f.Add(uint64(0), 10, 4, 2, uint64(1)<<63)
	f.Add(uint64(2), 1<<40, 0, 256, uint64(1)<<63)
	f.Add(uint64(3), 1<<40+1, -1, 0, uint64(math.MaxUint64))
	f.Fuzz(func(t *testing.T, seed uint64, now, submit, nodes int, factor uint64) {
		d := &dice{seed}
		for _, c := range []api.Config{pick(d, configs()), drawnConfig(d)} {
			priority(t, c, now, api.Job{Submit: submit, Nodes: nodes}, factor)
			priority(t, c, now, api.Job{Submit: submit, Nodes: nodes%c.Nodes + 1}, factor>>1)
		}
	})
}

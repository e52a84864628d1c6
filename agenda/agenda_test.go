package agenda

import (
	"iter"
	"math"
	"slices"
	"testing"

	"backfill/api"
)

// thing and plain are an agenda as plain as can be, against which the package is held: a list in no order.
type thing struct {
	id, at int
	x      string
}

type plain []thing

func (p plain) find(id int) int {
	return slices.IndexFunc(p, func(x thing) bool { return x.id == id })
}

func (p *plain) add(id, at int, x string) api.Errno {
	if p.find(id) >= 0 {
		return api.ErrAgendaThere
	}
	*p = append(*p, thing{id, at, x})
	return api.OK
}

func (p plain) get(id int) (int, string, bool) {
	if i := p.find(id); i >= 0 {
		return p[i].at, p[i].x, true
	}
	return 0, "", false
}

func (p *plain) drop(id int) bool {
	i := p.find(id)
	if i < 0 {
		return false
	}
	*p = slices.Delete(*p, i, i+1)
	return true
}

// next is the place of the one that is first in the order: found by looking at all of them, not by sorting.
func (p plain) next() int {
	best := -1
	for i, x := range p {
		if best < 0 || x.at < p[best].at || x.at == p[best].at && x.id < p[best].id {
			best = i
		}
	}
	return best
}

func (p plain) first() (int, int, bool) {
	if i := p.next(); i >= 0 {
		return p[i].id, p[i].at, true
	}
	return 0, 0, false
}

func (p *plain) due(now int) []int {
	var l []int
	for {
		i := p.next()
		if i < 0 || (*p)[i].at > now {
			return l
		}
		l = append(l, (*p)[i].id)
		*p = slices.Delete(*p, i, i+1)
	}
}

func (p plain) all() []pair {
	left := slices.Clone(p)
	var l []pair
	for len(left) > 0 {
		i := left.next()
		l = append(l, pair{left[i].id, left[i].at})
		left = slices.Delete(left, i, i+1)
	}
	return l
}

type pair struct{ id, at int }

func gone(all iter.Seq2[int, int]) []pair {
	var l []pair
	for id, at := range all {
		l = append(l, pair{id, at})
	}
	return l
}

// mixed goes through numbers without an order, always the same ones.
func mixed(seed uint64) uint64 {
	seed += 0x9e3779b97f4a7c15
	seed = (seed ^ seed>>30) * 0xbf58476d1ce4e5b9
	seed = (seed ^ seed>>27) * 0x94d049bb133111eb
	return seed ^ seed>>31
}

// dice throws numbers below n, one after another.
type dice uint64

func (d *dice) below(n int) int {
	*d++
	return int(mixed(uint64(*d)) % uint64(n))
}

func edges() []int {
	return []int{0, 1, -1, 7, -7, math.MaxInt, math.MaxInt - 1, math.MinInt, math.MinInt + 1, 1 << 31, -1 << 31, 1 << 32, -1 << 32, 1<<32 + 1, 1 << 62, -1 << 62}
}

// number is one of a few, so that numbers and times meet often, or an edge.
func (d *dice) number(few int) int {
	if d.below(5) == 0 {
		return edges()[d.below(len(edges()))]
	}
	return d.below(few) - few/2
}

func text(n int) string { return string([]byte{byte('a' + n%26), byte('a' + n/26%26)}) }

// same holds all that an agenda tells against the plain one; the numbers are those that are asked for beside those that it has.
func same(t *testing.T, a *Agenda[string], p plain, numbers ...int) {
	t.Helper()
	if a.Len() != len(p) {
		t.Fatalf("Len: %d, not %d", a.Len(), len(p))
	}
	id, at, ok := a.First()
	if wantID, wantAt, wantOK := p.first(); id != wantID || at != wantAt || ok != wantOK {
		t.Fatalf("First: %d %d %v, not %d %d %v", id, at, ok, wantID, wantAt, wantOK)
	}
	if l, want := gone(a.All()), p.all(); !slices.Equal(l, want) {
		t.Fatalf("All: %v, not %v", l, want)
	}
	for _, x := range p {
		numbers = append(numbers, x.id, x.id+1)
	}
	for _, id := range append(numbers, edges()...) {
		at, x, ok := a.Get(id)
		if wantAt, wantX, wantOK := p.get(id); at != wantAt || x != wantX || ok != wantOK {
			t.Fatalf("Get(%d): %d %q %v, not %d %q %v", id, at, x, ok, wantAt, wantX, wantOK)
		}
	}
}

// step does one thing, whatever it is, to both.
func step(t *testing.T, a *Agenda[string], p *plain, d *dice, few int) {
	t.Helper()
	id, at := d.number(few), d.number(few)
	switch d.below(8) {
	case 0, 1, 2, 3, 4:
		x := text(d.below(600))
		want := p.add(id, at, x)
		if e := a.Add(id, at, x); e != want {
			t.Fatalf("Add(%d, %d, %q): %d, not %d", id, at, x, e, want)
		}
	case 5, 6:
		want := p.drop(id)
		if ok := a.Drop(id); ok != want {
			t.Fatalf("Drop(%d): %v", id, ok)
		}
	default:
		if d.below(3) > 0 {
			at = -few/2 + d.below(few/4+1)
		}
		want := p.due(at)
		if l := a.Due(at); !slices.Equal(l, want) {
			t.Fatalf("Due(%d): %v, not %v", at, l, want)
		}
	}
}

// filled is an agenda of so many things, with the plain one.
func filled(t *testing.T, many, few int, seed int) (*Agenda[string], plain) {
	t.Helper()
	a, d := New[string](), dice(seed<<24)
	var p plain
	for tries := 0; len(p) < many && tries < 20*many; tries++ {
		id, at, x := d.number(4*many), d.number(few), text(d.below(600))
		want := p.add(id, at, x)
		if e := a.Add(id, at, x); e != want {
			t.Fatalf("Add(%d, %d, %q): %d, not %d", id, at, x, e, want)
		}
	}
	return a, p
}

func TestP31New(t *testing.T) {
	a := New[string]()
	if a == nil {
		t.Fatal("nil")
	}
	same(t, a, nil)
	for _, n := range edges() {
		if a.Drop(n) || len(a.Due(n)) != 0 {
			t.Error(n)
		}
	}
	same(t, a, nil)
	same(t, a.Clone(), nil)
	b := New[string]()
	a.Add(1, 1, "a")
	same(t, b, nil)
	same(t, New[string](), nil)
}

func TestP31Len(t *testing.T) {
	a := New[int]()
	for n := range 300 {
		if a.Len() != n {
			t.Fatal(a.Len(), n)
		}
		a.Add(n*7%300, n%11, n)
		a.Add(n*7%300, n%13, n)
	}
	for n := 300; n > 0; n-- {
		if a.Len() != n {
			t.Fatal(a.Len(), n)
		}
		a.Drop(n - 1)
		a.Drop(n - 1)
	}
	if a.Len() != 0 {
		t.Error(a.Len())
	}
}

func TestP32AddAndGet(t *testing.T) {
	for _, id := range edges() {
		for _, at := range edges() {
			a := New[string]()
			var p plain
			if e := a.Add(id, at, "x"); e != api.OK {
				t.Fatalf("Add(%d, %d): %d", id, at, e)
			}
			p.add(id, at, "x")
			same(t, a, p)
			if !a.Drop(id) || a.Drop(id) {
				t.Fatalf("Drop(%d)", id)
			}
			same(t, a, nil)
		}
	}
}

// A number that is there already is refused, and what it stands for stays, with whatever time and thing it comes again.
func TestP32There(t *testing.T) {
	a, p := filled(t, 40, 10, 3)
	for _, x := range slices.Clone(p) {
		for _, at := range append(edges(), x.at, x.at-1, x.at+1) {
			if e := a.Add(x.id, at, "other"); e != api.ErrAgendaThere {
				t.Fatalf("Add(%d, %d): %d", x.id, at, e)
			}
		}
		if e := a.Add(x.id, x.at, x.x); e != api.ErrAgendaThere {
			t.Fatalf("Add(%d, %d) of the same: %d", x.id, x.at, e)
		}
		same(t, a, p)
	}
}

// A number may come again once it is out, by Drop or by Due, with another time and another thing.
func TestP32Again(t *testing.T) {
	a := New[string]()
	var p plain
	for n := range 60 {
		id := n % 5
		if n%2 == 0 {
			a.Drop(id)
			p.drop(id)
		} else {
			a.Due(n % 9)
			p.due(n % 9)
		}
		want := p.add(id, n%13, text(n))
		if e := a.Add(id, n%13, text(n)); e != want {
			t.Fatalf("Add(%d, %d): %d, not %d", id, n%13, e, want)
		}
		same(t, a, p)
	}
}

func TestP32Drop(t *testing.T) {
	for seed := range 30 {
		many := 1 + seed*2
		a, p := filled(t, many, 8, seed)
		d := dice(seed)
		for len(p) > 0 {
			id := p[d.below(len(p))].id
			p.drop(id)
			if !a.Drop(id) || a.Drop(id) {
				t.Fatalf("Drop(%d)", id)
			}
			same(t, a, p, id)
		}
	}
}

// Whichever of them is dropped, the others stand in the order.
func TestP32DropEach(t *testing.T) {
	a, p := filled(t, 40, 30, 9)
	for _, x := range p {
		b, q := a.Clone(), slices.Clone(p)
		q.drop(x.id)
		if !b.Drop(x.id) {
			t.Fatalf("Drop(%d)", x.id)
		}
		same(t, b, q, x.id)
		if l, want := b.Due(math.MaxInt), q.due(math.MaxInt); !slices.Equal(l, want) {
			t.Fatalf("without %d: %v, not %v", x.id, l, want)
		}
	}
	same(t, a, p)
}

// Whichever of them is dropped, in whatever order they came, and others come behind it.
func TestP32DropEachOfAllOrders(t *testing.T) {
	for _, order := range orders(6) {
		for gone := range order {
			a := New[string]()
			var want []int
			for _, n := range order {
				a.Add(n, 10*n, "x")
			}
			a.Drop(gone)
			for n := range 10 {
				if n != gone {
					a.Add(n, 10*n, "y")
					want = append(want, n)
				}
			}
			if l := a.Due(90); !slices.Equal(l, want) {
				t.Fatalf("%v without %d: %v", order, gone, l)
			}
		}
	}
}

// What is kept is the thing itself, of whatever kind: a list, a pointer, a function, none.
func TestP32ThingsOfAllKinds(t *testing.T) {
	lists := New[[]int]()
	l := []int{1, 2, 3}
	lists.Add(4, 5, l)
	lists.Add(5, 5, nil)
	l[0] = 9
	if at, x, ok := lists.Get(4); at != 5 || !slices.Equal(x, []int{9, 2, 3}) || &x[0] != &l[0] || !ok {
		t.Error(at, x, ok)
	}
	if at, x, ok := lists.Get(5); at != 5 || x != nil || !ok {
		t.Error(at, x, ok)
	}
	if at, x, ok := lists.Get(6); at != 0 || x != nil || ok {
		t.Error(at, x, ok)
	}
	pointers := New[*thing]()
	p := &thing{1, 2, "a"}
	pointers.Add(-1, -2, p)
	if at, x, ok := pointers.Get(-1); at != -2 || x != p || !ok {
		t.Error(at, x, ok)
	}
	functions := New[func() int]()
	functions.Add(0, 0, func() int { return 77 })
	if at, x, ok := functions.Get(0); at != 0 || x == nil || x() != 77 || !ok {
		t.Error(at, ok)
	}
	if at, x, ok := functions.Get(1); at != 0 || x != nil || ok {
		t.Error(at, ok)
	}
	nothing := New[struct{}]()
	if nothing.Add(3, 4, struct{}{}) != api.OK || nothing.Add(3, 4, struct{}{}) != api.ErrAgendaThere || nothing.Len() != 1 {
		t.Error(nothing.Len())
	}
	anything := New[any]()
	anything.Add(1, 1, map[string]int{"a": 1})
	anything.Add(2, 1, math.NaN())
	if l := anything.Due(1); !slices.Equal(l, []int{1, 2}) {
		t.Error(l)
	}
}

func TestP33First(t *testing.T) {
	for seed := range 20 {
		a, p := filled(t, 30, 6, seed)
		for len(p) > 0 {
			id, at, ok := a.First()
			if wantID, wantAt, _ := p.first(); id != wantID || at != wantAt || !ok {
				t.Fatalf("First: %d %d %v, not %d %d", id, at, ok, wantID, wantAt)
			}
			if again, _, _ := a.First(); again != id {
				t.Fatal("First took it out:", id, again)
			}
			a.Drop(id)
			p.drop(id)
		}
		if id, at, ok := a.First(); id != 0 || at != 0 || ok {
			t.Fatal(id, at, ok)
		}
	}
}

// Of alike times the smaller number is first, also where the numbers are the least and the greatest.
func TestP33AlikeTimes(t *testing.T) {
	for _, at := range edges() {
		a := New[string]()
		numbers := append(edges(), 2, 3, 4, 5)
		for _, id := range numbers {
			if e := a.Add(id, at, "x"); e != api.OK {
				t.Fatalf("Add(%d, %d): %d", id, at, e)
			}
		}
		slices.Sort(numbers)
		if id, first, ok := a.First(); id != math.MinInt || first != at || !ok {
			t.Fatal(id, first, ok)
		}
		if at > math.MinInt {
			if l := a.Due(at - 1); len(l) != 0 {
				t.Fatalf("Due(%d): %v", at-1, l)
			}
		}
		if l := a.Due(at); !slices.Equal(l, numbers) {
			t.Fatalf("Due(%d): %v", at, l)
		}
		same(t, a, nil)
	}
}

// The least and the greatest time are far apart: farther than an int can tell.
func TestP33FarTimes(t *testing.T) {
	a := New[string]()
	a.Add(1, math.MaxInt, "last")
	a.Add(2, math.MinInt, "first")
	a.Add(3, 0, "midst")
	a.Add(math.MaxInt, -5, "p")
	a.Add(math.MinInt, -5, "q")
	if l := gone(a.All()); !slices.Equal(l, []pair{{2, math.MinInt}, {math.MinInt, -5}, {math.MaxInt, -5}, {3, 0}, {1, math.MaxInt}}) {
		t.Error(l)
	}
	if l := a.Due(math.MinInt); !slices.Equal(l, []int{2}) {
		t.Error(l)
	}
	if l := a.Due(math.MaxInt - 1); !slices.Equal(l, []int{math.MinInt, math.MaxInt, 3}) {
		t.Error(l)
	}
	if l := a.Due(math.MaxInt); !slices.Equal(l, []int{1}) {
		t.Error(l)
	}
}

func TestP33Due(t *testing.T) {
	for seed := range 30 {
		a, p := filled(t, 1+3*seed, 20, seed)
		for _, now := range []int{math.MinInt, -11, -10, -9, -3, 0, 0, 1, -4, 9, 10, 11, math.MaxInt - 1, math.MaxInt} {
			want := p.due(now)
			if l := a.Due(now); !slices.Equal(l, want) {
				t.Fatalf("Due(%d): %v, not %v", now, l, want)
			}
			same(t, a, p, want...)
			if l := a.Due(now); len(l) != 0 {
				t.Fatalf("Due(%d) again: %v", now, l)
			}
		}
		same(t, a, nil)
	}
}

// scribble writes into a list and into the spare room behind its end.
func scribble(l []int) {
	l = l[:cap(l)]
	for i := range l {
		l[i] = -7
	}
}

func TestP33DueIsNewMemory(t *testing.T) {
	a, p := filled(t, 60, 20, 5)
	var told, kept [][]int
	for now := -12; now < 12; now += 3 {
		want := p.due(now)
		l := a.Due(now)
		told, kept = append(told, l), append(kept, slices.Clone(l))
		if !slices.Equal(l, want) {
			t.Fatalf("Due(%d): %v, not %v", now, l, want)
		}
	}
	for i := range told {
		scribble(told[i])
		same(t, a, p)
		for j := i + 1; j < len(told); j++ {
			if !slices.Equal(told[j], kept[j]) {
				t.Fatal("an answer shows what was written into another:", told[j], kept[j])
			}
		}
	}
}

func TestP34AllLeftEarly(t *testing.T) {
	a, p := filled(t, 25, 8, 2)
	all, want := a.All(), p.all()
	for leave := range len(want) + 1 {
		var l []pair
		for id, at := range all {
			if len(l) == leave {
				break
			}
			l = append(l, pair{id, at})
		}
		if !slices.Equal(l, want[:leave]) {
			t.Fatalf("left behind %d: %v", leave, l)
		}
		same(t, a, p)
	}
	if l := gone(all); !slices.Equal(l, want) {
		t.Fatal("again:", l)
	}
}

// The function tells what there is as a range begins, not as it was asked for.
func TestP34AllBegins(t *testing.T) {
	a := New[string]()
	all := a.All()
	if all == nil {
		t.Fatal("nil")
	}
	var p plain
	d := dice(77)
	for range 60 {
		step(t, a, &p, &d, 12)
		if l := gone(all); !slices.Equal(l, p.all()) {
			t.Fatalf("%v, not %v", l, p.all())
		}
	}
}

// Whatever is changed while it runs, a range goes on as it began; the change is there behind it.
func TestP34AllWhileChanged(t *testing.T) {
	changes := []func(*Agenda[string], *plain, int){
		func(a *Agenda[string], p *plain, n int) { a.Drop(n); p.drop(n) },
		func(a *Agenda[string], p *plain, n int) { a.Due(n); p.due(n) },
		func(a *Agenda[string], p *plain, n int) { a.Due(math.MaxInt); p.due(math.MaxInt) },
		func(a *Agenda[string], p *plain, n int) { a.Add(n+1000, n, "new"); p.add(n+1000, n, "new") },
		func(a *Agenda[string], p *plain, n int) {
			a.Add(n-1000, math.MinInt, "new")
			p.add(n-1000, math.MinInt, "new")
		},
		func(a *Agenda[string], p *plain, n int) {
			a.Drop(n)
			p.drop(n)
			a.Add(n, 55, "other")
			p.add(n, 55, "other")
		},
		func(a *Agenda[string], p *plain, n int) { a.Clone().Due(math.MaxInt) },
	}
	for i, change := range changes {
		a, p := filled(t, 30, 8, i)
		want := p.all()
		var l []pair
		for id, at := range a.All() {
			change(a, &p, id)
			change(a, &p, want[len(want)-1-len(l)].id)
			l = append(l, pair{id, at})
			same(t, a, p)
		}
		if !slices.Equal(l, want) {
			t.Errorf("%d: %v, not %v", i, l, want)
		}
		same(t, a, p)
	}
}

// Two ranges over one function, one within the other, and the inner one begins anew each time.
func TestP34AllWithinItself(t *testing.T) {
	a, p := filled(t, 12, 5, 8)
	want := p.all()
	all := a.All()
	var outer []pair
	for id, at := range all {
		if l := gone(all); !slices.Equal(l, p.all()) {
			t.Fatalf("within: %v, not %v", l, p.all())
		}
		outer = append(outer, pair{id, at})
		a.Drop(id)
		p.drop(id)
	}
	if !slices.Equal(outer, want) {
		t.Errorf("%v, not %v", outer, want)
	}
	same(t, a, nil)
}

// Two ranges that go side by side, one step of each in turn.
func TestP34AllSideBySide(t *testing.T) {
	a, p := filled(t, 12, 5, 4)
	want := p.all()
	all := a.All()
	nextOne, stopOne := iter.Pull2(all)
	nextOther, stopOther := iter.Pull2(all)
	defer stopOne()
	defer stopOther()
	for _, x := range want {
		id, at, ok := nextOne()
		otherID, otherAt, otherOK := nextOther()
		if !ok || !otherOK || (pair{id, at}) != x || (pair{otherID, otherAt}) != x {
			t.Fatal(id, at, ok, otherID, otherAt, otherOK, x)
		}
		a.Drop(id)
	}
	if _, _, ok := nextOne(); ok {
		t.Error("one more")
	}
}

func TestP35Clone(t *testing.T) {
	for seed := range 20 {
		a, p := filled(t, 3*seed, 10, seed)
		b, q := a.Clone(), slices.Clone(p)
		same(t, b, q)
		d := dice(seed << 8)
		for range 40 {
			step(t, a, &p, &d, 20)
			same(t, b, q)
			step(t, b, &q, &d, 20)
			same(t, a, p)
		}
		c, r := b.Clone(), slices.Clone(q)
		b.Due(math.MaxInt)
		same(t, c, r)
		same(t, a, p)
		same(t, b, nil)
	}
}

// A clone and the agenda lay different things into the room behind what they have in common.
func TestP35CloneSharesNoRoom(t *testing.T) {
	for many := range 20 {
		a := New[string]()
		var p plain
		for n := range many {
			a.Add(n, n, "x")
			p.add(n, n, "x")
		}
		b, q := a.Clone(), slices.Clone(p)
		a.Add(100, 100, "of a")
		p.add(100, 100, "of a")
		b.Add(100, 99, "of b")
		q.add(100, 99, "of b")
		same(t, a, p)
		same(t, b, q)
	}
}

// A range that runs over one of the two does not see what is done to the other, and All of a clone tells the clone's things.
func TestP35CloneWhileGoneThrough(t *testing.T) {
	a, p := filled(t, 20, 8, 6)
	all := a.All()
	b := a.Clone()
	b.Due(math.MaxInt)
	if l := gone(all); !slices.Equal(l, p.all()) {
		t.Error(l)
	}
	if l := gone(b.All()); len(l) != 0 {
		t.Error(l)
	}
}

func TestP35ThingsAreTheSame(t *testing.T) {
	a := New[[]int]()
	l := []int{1, 2}
	a.Add(1, 1, l)
	b := a.Clone()
	_, x, _ := b.Get(1)
	x[1] = 5
	if _, y, _ := a.Get(1); y[1] != 5 || &y[0] != &x[0] || l[1] != 5 {
		t.Error(y, l)
	}
	a.Drop(1)
	if at, x, ok := b.Get(1); at != 1 || !slices.Equal(x, []int{1, 5}) || !ok {
		t.Error(at, x, ok)
	}
	pointers := New[*thing]()
	pointers.Add(1, 1, &thing{at: 3})
	_, one, _ := pointers.Get(1)
	if _, other, _ := pointers.Clone().Get(1); one != other {
		t.Error("not the same")
	}
}

func TestP36DueInTwo(t *testing.T) {
	nows := []int{math.MinInt, -9, -4, 0, 0, 3, 7, math.MaxInt - 1, math.MaxInt}
	for seed := range 10 {
		a, p := filled(t, 40, 16, seed)
		for i, one := range nows {
			for _, other := range nows[i:] {
				b, c := a.Clone(), a.Clone()
				l := b.Due(one)
				if _, at, ok := b.First(); ok && at <= one {
					t.Fatalf("behind Due(%d) there is one at %d", one, at)
				}
				l = append(l, b.Due(other)...)
				if at := c.Due(other); !slices.Equal(l, at) {
					t.Fatalf("Due(%d) and Due(%d): %v, not %v", one, other, l, at)
				}
				if !slices.Equal(gone(b.All()), gone(c.All())) {
					t.Fatalf("Due(%d) and Due(%d) leave other things", one, other)
				}
			}
		}
		same(t, a, p)
	}
}

func TestP36AllIsDue(t *testing.T) {
	for seed := range 20 {
		a, _ := filled(t, 5*seed, 12, seed)
		var l []int
		for id := range a.All() {
			l = append(l, id)
		}
		if told := a.Due(math.MaxInt); !slices.Equal(told, l) || a.Len() != 0 {
			t.Fatalf("%v, not %v; %d left", told, l, a.Len())
		}
	}
}

func TestP37OrderOfAddingIsNotSeen(t *testing.T) {
	things := []thing{{5, 2, "a"}, {1, 2, "b"}, {-3, 2, "c"}, {4, -1, "d"}, {2, 7, "e"}, {9, 7, "f"}}
	for _, order := range orders(len(things)) {
		a := New[string]()
		var p plain
		for _, i := range order {
			a.Add(things[i].id, things[i].at, things[i].x)
			p.add(things[i].id, things[i].at, things[i].x)
		}
		same(t, a, p)
		if l := gone(a.All()); !slices.Equal(l, []pair{{4, -1}, {-3, 2}, {1, 2}, {5, 2}, {2, 7}, {9, 7}}) {
			t.Fatalf("%v: %v", order, l)
		}
		if l := a.Due(2); !slices.Equal(l, []int{4, -3, 1, 5}) {
			t.Fatalf("%v: %v", order, l)
		}
		if l := a.Due(7); !slices.Equal(l, []int{2, 9}) {
			t.Fatalf("%v: %v", order, l)
		}
	}
}

// orders are all orders of the numbers below n.
func orders(n int) [][]int {
	if n == 0 {
		return [][]int{nil}
	}
	var all [][]int
	for _, order := range orders(n - 1) {
		for i := range n {
			all = append(all, slices.Insert(slices.Clone(order), i, n-1))
		}
	}
	return all
}

// Many things, added in several orders with some of them out and in again, leave in one order.
func TestP37Many(t *testing.T) {
	const many = 2000
	var want []int
	// None of the strides has a factor in common with many, so that each goes through all numbers.
	for seed, stride := range []int{1, 7, 777, many - 1} {
		a := New[int]()
		for n := range many {
			id := n * stride % many
			if e := a.Add(id, id*37%101, id); e != api.OK {
				t.Fatal(stride, id, e)
			}
		}
		for n := seed; n < many; n += 3 {
			at, x, ok := a.Get(n)
			if !ok || !a.Drop(n) || a.Add(n, at, x) != api.OK {
				t.Fatal(seed, n)
			}
		}
		l := a.Due(math.MaxInt)
		if seed == 0 {
			want = l
		}
		if len(l) != many || !slices.Equal(l, want) {
			t.Fatalf("stride %d: another order", stride)
		}
	}
	if !slices.IsSortedFunc(want, func(a, b int) int {
		if a*37%101 != b*37%101 {
			return a*37%101 - b*37%101
		}
		return a - b
	}) {
		t.Error("not in the order")
	}
}

func TestLongScripts(t *testing.T) {
	for seed := range 12 {
		a, d := New[string](), dice(seed<<30)
		var p plain
		few := []int{4, 10, 40, 200}[seed%4]
		for range 500 {
			step(t, a, &p, &d, few)
			same(t, a, p)
		}
	}
}

// A thing that is out is not held on to: its place in the room behind the others is empty.
func TestNothingIsKept(t *testing.T) {
	a := New[*thing]()
	for n := range 9 {
		a.Add(n, n, &thing{})
	}
	a.Drop(3)
	a.Due(5)
	for _, e := range a.heap[len(a.heap):cap(a.heap)] {
		if e.x != nil {
			t.Fatal("kept:", e)
		}
	}
	if len(a.places) != a.Len() {
		t.Error(len(a.places), a.Len())
	}
}

func TestExamples(t *testing.T) {
	a := New[string]()
	for i, x := range []struct {
		thing
		want api.Errno
	}{
		{thing{7, 5, "a"}, api.OK}, {thing{3, 5, "b"}, api.OK}, {thing{9, 4, "c"}, api.OK}, {thing{7, 1, "d"}, api.ErrAgendaThere},
	} {
		if e := a.Add(x.id, x.at, x.x); e != x.want {
			t.Errorf("%d: %d", i, e)
		}
	}
	first := func(wantID, wantAt int, wantOK bool) {
		t.Helper()
		if id, at, ok := a.First(); id != wantID || at != wantAt || ok != wantOK {
			t.Error(id, at, ok)
		}
	}
	due := func(now int, want ...int) {
		t.Helper()
		if l := a.Due(now); !slices.Equal(l, want) {
			t.Error(l)
		}
	}
	first(9, 4, true)
	if l := gone(a.All()); !slices.Equal(l, []pair{{9, 4}, {3, 5}, {7, 5}}) {
		t.Error(l)
	}
	due(4, 9)
	due(4)
	if at, x, ok := a.Get(9); at != 0 || x != "" || ok {
		t.Error(at, x, ok)
	}
	if !a.Drop(3) || a.Drop(3) || a.Len() != 1 {
		t.Error(a.Len())
	}
	if at, x, ok := a.Get(7); at != 5 || x != "a" || !ok {
		t.Error(at, x, ok)
	}
	due(9, 7)
	first(0, 0, false)
}

package nodes

import (
	"math"
	"slices"
	"testing"

	"backfill/api"
)

// machine is a set as plain as can be, against which the package is held: a node is free where it is true.
type machine []bool

func allFree(n int) machine {
	m := make(machine, n)
	for node := range m {
		m[node] = true
	}
	return m
}

func (m machine) list() []int {
	var l []int
	for node, free := range m {
		if free {
			l = append(l, node)
		}
	}
	return l
}

func (m machine) take(many int) ([]int, api.Errno) {
	l := m.list()
	if many < 1 {
		return nil, api.ErrNodesMany
	}
	if many > len(l) {
		return nil, api.ErrNodesFree
	}
	m.set(l[:many], false)
	return l[:many], api.OK
}

func (m machine) set(l []int, free bool) {
	for _, node := range l {
		m[node] = free
	}
}

func (m machine) turn(l []int, free bool) api.Errno {
	last := -1
	for _, node := range l {
		if node <= last || node >= len(m) {
			return api.ErrNodesSet
		}
		last = node
	}
	for _, node := range l {
		if m[node] == free {
			return api.ErrNodesFree
		}
	}
	m.set(l, free)
	return api.OK
}

// mixed goes through numbers without an order, always the same ones.
func mixed(seed uint64) uint64 {
	seed += 0x9e3779b97f4a7c15
	seed = (seed ^ seed>>30) * 0xbf58476d1ce4e5b9
	seed = (seed ^ seed>>27) * 0x94d049bb133111eb
	return seed ^ seed>>31
}

// dice throws numbers below n, one after another.
type dice uint64

func (d *dice) below(n int) int {
	*d++
	return int(mixed(uint64(*d)) % uint64(n))
}

func sizes() []int { return []int{1, 2, 5, 63, 64, 65, 127, 128, 129, 130, 191, 192, 193, 255, 256} }

func outside(n int) []int {
	return []int{-1, n, n + 1, n + 63, n + 64, 256, 257, 320, -64, -65, -256, 1 << 31, 1 << 32, 1<<32 + 1, -1 << 32, math.MaxInt, math.MinInt, math.MinInt + 1}
}

func build(t *testing.T, n int) *Set {
	t.Helper()
	s, e := New(n)
	if s == nil || e != api.OK {
		t.Fatalf("New(%d): %v %v", n, s, e)
	}
	return s
}

// same holds all that a set tells against the plain one (P2.2).
func same(t *testing.T, s *Set, m machine) {
	t.Helper()
	want := m.list()
	if l := s.List(); !slices.Equal(l, want) {
		t.Fatalf("List: %v, not %v", l, want)
	}
	if s.Free() != len(want) {
		t.Fatalf("Free: %d, not %d", s.Free(), len(want))
	}
	for node, free := range m {
		if s.Has(node) != free {
			t.Fatalf("Has(%d): %v", node, !free)
		}
	}
	for _, node := range outside(len(m)) {
		if s.Has(node) {
			t.Fatalf("Has(%d) of %d nodes", node, len(m))
		}
	}
}

// half is a set in which some are taken: of those that the seed picks.
func half(t *testing.T, n int, seed uint64) (*Set, machine) {
	t.Helper()
	s, m := build(t, n), allFree(n)
	d := dice(seed << 20)
	l := someOf(m.list(), &d)
	if e := s.Claim(l); e != api.OK {
		t.Fatalf("Claim(%v) of %d: %d", l, n, e)
	}
	m.set(l, false)
	return s, m
}

func someOf(l []int, d *dice) []int {
	var out []int
	for _, node := range l {
		if d.below(2) == 0 {
			out = append(out, node)
		}
	}
	return out
}

func TestP21New(t *testing.T) {
	for n := 1; n <= api.MaxNodes; n++ {
		same(t, build(t, n), allFree(n))
	}
	for _, n := range []int{0, -1, -64, -256, 257, 258, 320, 512, 1 << 31, 1 << 32, 1<<32 + 1, math.MaxInt, math.MinInt} {
		if s, e := New(n); s != nil || e != api.ErrNodesMany {
			t.Errorf("New(%d): %v %d", n, s, e)
		}
	}
}

func TestP21NewIsNew(t *testing.T) {
	a, b := build(t, 70), build(t, 70)
	a.Take(70)
	same(t, b, allFree(70))
	same(t, build(t, 70), allFree(70))
}

func TestP22WhatIsFree(t *testing.T) {
	for _, n := range sizes() {
		for seed := range uint64(20) {
			s, m := half(t, n, seed)
			same(t, s, m)
		}
		s := build(t, n)
		s.Take(n)
		same(t, s, make(machine, n))
	}
}

func TestP23Take(t *testing.T) {
	for _, n := range sizes() {
		for many := 1; many <= n; many++ {
			s, m := build(t, n), allFree(n)
			want, _ := m.take(many)
			if l, e := s.Take(many); e != api.OK || !slices.Equal(l, want) {
				t.Fatalf("Take(%d) of %d: %v %d", many, n, l, e)
			}
			same(t, s, m)
		}
	}
}

func TestP23TakeAmongTaken(t *testing.T) {
	for _, n := range sizes() {
		for seed := range uint64(30) {
			s, m := half(t, n, seed)
			d := dice(seed)
			for range 6 {
				many := d.below(n/3+2) - 1
				want, wantErr := m.take(many)
				if l, e := s.Take(many); e != wantErr || !slices.Equal(l, want) {
					t.Fatalf("Take(%d) of %d: %v %d, not %v %d", many, n, l, e, want, wantErr)
				}
				same(t, s, m)
			}
		}
	}
}

func TestP23TakeRefused(t *testing.T) {
	for _, n := range sizes() {
		s, m := half(t, n, 7)
		free := s.Free()
		for _, x := range []struct {
			many int
			want api.Errno
		}{
			{0, api.ErrNodesMany}, {-1, api.ErrNodesMany}, {-256, api.ErrNodesMany}, {math.MinInt, api.ErrNodesMany},
			{free + 1, api.ErrNodesFree}, {n + 1, api.ErrNodesFree}, {257, api.ErrNodesFree}, {1 << 32, api.ErrNodesFree}, {math.MaxInt, api.ErrNodesFree},
		} {
			if l, e := s.Take(x.many); len(l) != 0 || e != x.want {
				t.Errorf("Take(%d) of %d: %v %d", x.many, n, l, e)
			}
			same(t, s, m)
		}
		s.Take(free)
		if l, e := s.Take(0); len(l) != 0 || e != api.ErrNodesMany {
			t.Errorf("Take(0) of none: %v %d", l, e)
		}
		if l, e := s.Take(1); len(l) != 0 || e != api.ErrNodesFree {
			t.Errorf("Take(1) of none: %v %d", l, e)
		}
	}
}

// Each node by itself: the last one of a word and of the machine among them.
func TestP24EachNode(t *testing.T) {
	for _, n := range sizes() {
		s, m := build(t, n), allFree(n)
		for node := range n {
			l := []int{node}
			for _, x := range []struct {
				name string
				do   func([]int) api.Errno
				want api.Errno
				free bool
			}{{"Give", s.Give, api.ErrNodesFree, true}, {"Claim", s.Claim, api.OK, false}, {"Claim", s.Claim, api.ErrNodesFree, false}, {"Give", s.Give, api.OK, true}} {
				m[node] = x.free
				if e := x.do(l); e != x.want {
					t.Fatalf("%s(%d) of %d: %d", x.name, node, n, e)
				}
				same(t, s, m)
			}
		}
	}
}

func TestP24Lists(t *testing.T) {
	for _, n := range sizes() {
		for seed := range uint64(30) {
			s, m := half(t, n, seed)
			d := dice(seed << 10)
			for range 8 {
				l, free := anyList(m, &d), d.below(2) == 0
				do := s.Claim
				if free {
					do = s.Give
				}
				want := m.turn(l, free)
				if e := do(l); e != want {
					t.Fatalf("%v of %d, to free: %v: %d, not %d", l, n, free, e, want)
				}
				same(t, s, m)
			}
		}
	}
}

// anyList is one of the lists that are taken well, and one of those that are refused, about as often as each other.
func anyList(m machine, d *dice) []int {
	var taken []int
	for node, free := range m {
		if !free {
			taken = append(taken, node)
		}
	}
	switch d.below(5) {
	case 0:
		return someOf(m.list(), d)
	case 1:
		return someOf(taken, d)
	case 2:
		return someOf(allFree(len(m)).list(), d)
	case 3:
		return append(someOf(m.list(), d), d.below(len(m)))
	}
	return append(someOf(taken, d), outside(len(m))[d.below(4)])
}

func TestP24NoSet(t *testing.T) {
	for _, n := range []int{5, 64, 130, 256} {
		s, m := build(t, n), allFree(n)
		// 1 and 3 are taken, so that some lists could be refused for both reasons.
		s.Claim([]int{1, 3})
		m.set([]int{1, 3}, false)
		lists := [][]int{{2, 2}, {2, 0}, {4, 3, 2}, {0, 1, 2, 2}, {1, 1}, {3, 1}, {0, 2, 1}, {1, 3, 3}, {1, 3, 2}, {0, 4, 2, 3}}
		for _, x := range outside(n) {
			lists = append(lists, []int{x}, []int{0, x}, []int{x, 0}, []int{1, x}, []int{x, 1}, []int{0, 1, 2, 3, x})
		}
		for _, l := range lists {
			if e := s.Claim(l); e != api.ErrNodesSet {
				t.Errorf("Claim(%v) of %d: %d", l, n, e)
			}
			if e := s.Give(l); e != api.ErrNodesSet {
				t.Errorf("Give(%v) of %d: %d", l, n, e)
			}
			same(t, s, m)
		}
	}
}

func TestP24NotFree(t *testing.T) {
	s, m := build(t, 130), allFree(130)
	s.Claim([]int{1, 64, 129})
	m.set([]int{1, 64, 129}, false)
	// What is in the way stands first, in the midst, and last.
	for _, l := range [][]int{{1, 2, 3}, {0, 1, 2}, {0, 64}, {63, 64, 65}, {128, 129}, {0, 2, 129}} {
		if e := s.Claim(l); e != api.ErrNodesFree {
			t.Errorf("Claim(%v): %d", l, e)
		}
		same(t, s, m)
	}
	for _, l := range [][]int{{0, 1, 64}, {1, 2, 64}, {1, 64, 128}, {1, 64, 65, 129}, {63, 129}, {0}} {
		if e := s.Give(l); e != api.ErrNodesFree {
			t.Errorf("Give(%v): %d", l, e)
		}
		same(t, s, m)
	}
}

func TestP24Empty(t *testing.T) {
	for _, n := range sizes() {
		s, m := half(t, n, 3)
		for _, l := range [][]int{nil, {}, make([]int, 0, 4)} {
			if e := s.Claim(l); e != api.OK {
				t.Errorf("Claim(none) of %d: %d", n, e)
			}
			if e := s.Give(l); e != api.OK {
				t.Errorf("Give(none) of %d: %d", n, e)
			}
			same(t, s, m)
		}
	}
}

// A list longer than any machine is no set of nodes.
func TestP24Long(t *testing.T) {
	s := build(t, 256)
	if e := s.Claim(make([]int, 1<<20)); e != api.ErrNodesSet {
		t.Error(e)
	}
	same(t, s, allFree(256))
}

func TestP24HandedInStays(t *testing.T) {
	s := build(t, 200)
	room := []int{3, 64, 199, 77, 78}
	l := room[:3]
	if e := s.Claim(l); e != api.OK {
		t.Fatal(e)
	}
	if e := s.Claim(room); e != api.ErrNodesSet {
		t.Fatal(e)
	}
	if !slices.Equal(room, []int{3, 64, 199, 77, 78}) {
		t.Error("changed:", room)
	}
	l[0], l[1], l[2] = 0, 0, 0
	m := allFree(200)
	m.set([]int{3, 64, 199}, false)
	same(t, s, m)
	back := []int{3, 64, 199, 5}
	if e := s.Give(back[:3]); e != api.OK || !slices.Equal(back, []int{3, 64, 199, 5}) {
		t.Error(e, back)
	}
	same(t, s, allFree(200))
}

// scribble writes into a list and into the spare room behind its end.
func scribble(l []int) {
	l = l[:cap(l)]
	for i := range l {
		l[i] = -7
	}
}

func TestAnswersAreNewMemory(t *testing.T) {
	for _, n := range sizes() {
		s, m := half(t, n, 11)
		first := s.List()
		kept := slices.Clone(first)
		scribble(s.List())
		if !slices.Equal(first, kept) {
			t.Fatalf("of %d: an earlier list shows a later one's change", n)
		}
		scribble(first)
		same(t, s, m)
		many := max(s.Free()/2, 1)
		want, wantErr := m.take(many)
		l, e := s.Take(many)
		if e != wantErr || !slices.Equal(l, want) {
			t.Fatalf("Take(%d) of %d: %v %d", many, n, l, e)
		}
		scribble(s.List())
		if !slices.Equal(l, want) {
			t.Fatalf("of %d: what was taken shows a later list's change", n)
		}
		scribble(l)
		same(t, s, m)
	}
}

func TestP25Clone(t *testing.T) {
	for _, n := range sizes() {
		for seed := range uint64(10) {
			s, m := half(t, n, seed)
			c, copied := s.Clone(), slices.Clone(m)
			same(t, c, copied)
			d := dice(seed << 8)
			for range 6 {
				step(t, s, m, &d)
				same(t, c, copied)
				step(t, c, copied, &d)
				same(t, s, m)
			}
			same(t, c.Clone(), copied)
			same(t, c, copied)
		}
	}
}

// step does one thing, whatever it is, to both.
func step(t *testing.T, s *Set, m machine, d *dice) {
	t.Helper()
	switch d.below(3) {
	case 0:
		many := 1 + d.below(len(m)/4+1)
		want, wantErr := m.take(many)
		if l, e := s.Take(many); e != wantErr || !slices.Equal(l, want) {
			t.Fatalf("Take(%d): %v %d, not %v %d", many, l, e, want, wantErr)
		}
	case 1:
		l := anyList(m, d)
		want := m.turn(l, false)
		if e := s.Claim(l); e != want {
			t.Fatalf("Claim(%v): %d, not %d", l, e, want)
		}
	default:
		l := anyList(m, d)
		want := m.turn(l, true)
		if e := s.Give(l); e != want {
			t.Fatalf("Give(%v): %d, not %d", l, e, want)
		}
	}
	same(t, s, m)
}

// A clone of a clone, and one of a set that is gone on with, are machines of the same size.
func TestP25CloneHasTheSize(t *testing.T) {
	for _, n := range sizes() {
		s := build(t, n)
		s.Take(n)
		c := s.Clone().Clone()
		if e := c.Give([]int{n}); e != api.ErrNodesSet {
			t.Errorf("Give(%d) of %d: %d", n, n, e)
		}
		if e := c.Give(allFree(n).list()); e != api.OK {
			t.Errorf("Give(all) of %d: %d", n, e)
		}
		same(t, c, allFree(n))
		same(t, s, make(machine, n))
	}
}

func TestP26GivenBackAndClaimed(t *testing.T) {
	for _, n := range sizes() {
		for seed := range uint64(20) {
			s, m := half(t, n, seed)
			before := slices.Clone(m)
			many := 1 + int(seed)%max(s.Free(), 1)
			l, e := s.Take(many)
			if e != api.OK {
				continue
			}
			m.set(l, false)
			for range 2 {
				if e := s.Give(l); e != api.OK {
					t.Fatalf("Give(%v): %d", l, e)
				}
				same(t, s, before)
				if e := s.Claim(l); e != api.OK {
					t.Fatalf("Claim(%v): %d", l, e)
				}
				same(t, s, m)
			}
		}
	}
}

// Free and taken ones are all: those that can be given back are just those that are not listed.
func TestP26All(t *testing.T) {
	for _, n := range sizes() {
		for seed := range uint64(20) {
			s, _ := half(t, n, seed)
			var taken []int
			for node := range n {
				if !slices.Contains(s.List(), node) {
					taken = append(taken, node)
				}
			}
			if s.Free()+len(taken) != n {
				t.Fatalf("%d free and %d taken of %d", s.Free(), len(taken), n)
			}
			if e := s.Give(taken); e != api.OK || s.Free() != n {
				t.Fatalf("Give(%v): %d, and %d free of %d", taken, e, s.Free(), n)
			}
		}
	}
}

func TestP27LowestFirst(t *testing.T) {
	for _, n := range sizes() {
		for seed := range uint64(20) {
			s, _ := half(t, n, seed)
			for many := 1; s.Free() >= many; many++ {
				free := s.List()
				l, e := s.Take(many)
				if e != api.OK || len(l) != many || !slices.IsSorted(l) {
					t.Fatalf("Take(%d): %v %d", many, l, e)
				}
				for _, node := range l {
					if !slices.Contains(free, node) {
						t.Fatalf("Take(%d): %d was not free", many, node)
					}
				}
				if left := s.List(); len(left) > 0 && left[0] < l[many-1] {
					t.Fatalf("Take(%d): %v, and %d is left", many, l, left[0])
				}
			}
		}
	}
}

func TestLongScripts(t *testing.T) {
	for i, n := range sizes() {
		s, m := build(t, n), allFree(n)
		d := dice(i << 30)
		for range 400 {
			step(t, s, m, &d)
		}
	}
}

func TestExamples(t *testing.T) {
	for _, n := range []int{0, 257} {
		if s, e := New(n); s != nil || e != api.ErrNodesMany {
			t.Errorf("New(%d): %v %d", n, s, e)
		}
	}
	s := build(t, 5)
	take := func(many int, want []int, wantErr api.Errno) {
		t.Helper()
		if l, e := s.Take(many); e != wantErr || !slices.Equal(l, want) {
			t.Errorf("Take(%d): %v %d", many, l, e)
		}
	}
	told := func(e, want api.Errno) {
		t.Helper()
		if e != want {
			t.Errorf("%d, not %d", e, want)
		}
	}
	take(2, []int{0, 1}, api.OK)
	if s.Free() != 3 || !slices.Equal(s.List(), []int{2, 3, 4}) {
		t.Error(s.Free(), s.List())
	}
	told(s.Give([]int{0}), api.OK)
	take(2, []int{0, 2}, api.OK)
	take(0, nil, api.ErrNodesMany)
	take(3, nil, api.ErrNodesFree)
	told(s.Claim([]int{3, 4}), api.OK)
	told(s.Claim([]int{3}), api.ErrNodesFree)
	told(s.Claim([]int{4, 3}), api.ErrNodesSet)
	told(s.Claim([]int{5}), api.ErrNodesSet)
	told(s.Claim(nil), api.OK)
	told(s.Give([]int{3, 3}), api.ErrNodesSet)
	told(s.Give([]int{-1}), api.ErrNodesSet)
	told(s.Give([]int{0, 1, 2, 3, 4}), api.OK)
	told(s.Give([]int{0}), api.ErrNodesFree)
}

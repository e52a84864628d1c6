package tree

import (
	"fmt"
	"math"
	"slices"
	"strings"
	"sync"
	"testing"

	"backfill/api"
)

// plain is a tree as plain as can be, against which the package is held: a list alone, gone through for every answer.
type plain []api.Account

func aRoot() api.Account { return api.Account{Name: "root", Parent: -1, Shares: 1} }

func rootAlone() plain { return plain{aRoot()} }

// way is the numbers by which one comes up from an account, itself first; it is cut off behind so many that it must go in a circle.
func (p plain) way(n int) []int {
	var l []int
	for n != -1 && len(l) <= len(p) {
		l = append(l, n)
		n = p[n].Parent
	}
	return l
}

func (p plain) has(n int) bool { return 0 <= n && n < len(p) }

func (p plain) find(name string) (int, bool) {
	for n, a := range p {
		if a.Name == name {
			return n, true
		}
	}
	return 0, false
}

func (p plain) kids(n int) []int {
	var l []int
	for m, a := range p {
		if p.has(n) && a.Parent == n {
			l = append(l, m)
		}
	}
	return l
}

func (p plain) below(n int) []int {
	var l []int
	for m := range p {
		if slices.Contains(p.way(m), n) {
			l = append(l, m)
		}
	}
	return l
}

func (p plain) depth(n int) int {
	if !p.has(n) {
		return -1
	}
	return len(p.way(n)) - 1
}

// height is how much deeper than an account the deepest one below it is.
func (p plain) height(n int) int {
	most := 0
	for _, m := range p.below(n) {
		most = max(most, p.depth(m)-p.depth(n))
	}
	return most
}

const signs = "abcdefghijklmnopqrstuvwxyzABCDEFGHIJKLMNOPQRSTUVWXYZ0123456789-_"

func nameIsRight(s string) bool {
	return s != "" && len(s) <= 32 && strings.Trim(s, signs) == ""
}

func (p plain) loads() api.Errno {
	if len(p) == 0 || p[0].Name != "root" || p[0].Parent != -1 || p[0].Shares != 1 || p[0].Closed {
		return api.ErrTreeRoot
	}
	if len(p) > 64 {
		return api.ErrTreeMany
	}
	for n := 1; n < len(p); n++ {
		first, _ := p.find(p[n].Name)
		switch a := p[n]; {
		case !nameIsRight(a.Name):
			return api.ErrTreeName
		case first < n:
			return api.ErrTreeThere
		case !p.has(a.Parent):
			return api.ErrTreeNone
		case a.Shares < 1 || a.Shares > 4096:
			return api.ErrTreeShares
		}
	}
	for n := range p {
		way := p.way(n)
		switch {
		case way[len(way)-1] != 0:
			return api.ErrTreeBelow
		case len(way)-1 > 4:
			return api.ErrTreeDeep
		}
	}
	return api.OK
}

func (p *plain) add(name, parent string, shares int) (int, api.Errno) {
	_, there := p.find(name)
	at, known := p.find(parent)
	switch {
	case !nameIsRight(name):
		return 0, api.ErrTreeName
	case there:
		return 0, api.ErrTreeThere
	case !known:
		return 0, api.ErrTreeNone
	case shares < 1 || shares > 4096:
		return 0, api.ErrTreeShares
	case p.depth(at) >= 4:
		return 0, api.ErrTreeDeep
	case len(*p) >= 64:
		return 0, api.ErrTreeMany
	}
	*p = append(*p, api.Account{Name: name, Parent: at, Shares: shares})
	return len(*p) - 1, api.OK
}

// changes is what the three calls that change an account have in common.
func (p plain) changes(name string, change func(n int) api.Errno) api.Errno {
	n, there := p.find(name)
	switch {
	case !there:
		return api.ErrTreeNone
	case n == 0:
		return api.ErrTreeRoot
	}
	return change(n)
}

func (p plain) shares(name string, shares int) api.Errno {
	return p.changes(name, func(n int) api.Errno {
		if shares < 1 || shares > 4096 {
			return api.ErrTreeShares
		}
		p[n].Shares = shares
		return api.OK
	})
}

func (p plain) move(name, parent string) api.Errno {
	return p.changes(name, func(n int) api.Errno {
		at, known := p.find(parent)
		switch {
		case !known:
			return api.ErrTreeNone
		case slices.Contains(p.way(at), n):
			return api.ErrTreeBelow
		case p.depth(at)+1+p.height(n) > 4:
			return api.ErrTreeDeep
		}
		p[n].Parent = at
		return api.OK
	})
}

func (p plain) close(name string) api.Errno {
	return p.changes(name, func(n int) api.Errno {
		p[n].Closed = true
		return api.OK
	})
}

// mixed goes through numbers without an order, always the same ones.
func mixed(seed uint64) uint64 {
	seed += 0x9e3779b97f4a7c15
	seed = (seed ^ seed>>30) * 0xbf58476d1ce4e5b9
	seed = (seed ^ seed>>27) * 0x94d049bb133111eb
	return seed ^ seed>>31
}

// dice throws numbers below n, one after another.
type dice uint64

func (d *dice) below(n int) int {
	*d++
	return int(mixed(uint64(*d)) % uint64(n))
}

func outside(n int) []int {
	return []int{-1, -2, -64, n, n + 1, 64, 65, 1 << 31, 1 << 32, -1 << 32, math.MaxInt, math.MinInt}
}

func wrongNames() []string {
	return []string{"", strings.Repeat("a", 33), strings.Repeat("a", 1000), " ", "c d", " c", "c ", "c.", ".", "c/d", "c:d", "@", "[", "`", "{", "c\n", "c\x00", "\x00", "\xff", "a\x80", "ä", "é", "日", "\u212a", "\uff21", "c+", "c*", "c=", "\t"}
}

// sameTree holds all that a tree tells against the plain one (P6.5).
func sameTree(t *testing.T, a *Tree, p plain) {
	t.Helper()
	if l := a.List(); !slices.Equal(l, p) {
		t.Fatalf("List: %v, not %v", l, p)
	}
	if a.Len() != len(p) {
		t.Fatalf("Len: %d, not %d", a.Len(), len(p))
	}
	for n, want := range p {
		if m, there := a.Find(want.Name); m != n || !there {
			t.Fatalf("Find(%q): %d %v, not %d", want.Name, m, there, n)
		}
		if x, there := a.Get(n); x != want || !there {
			t.Fatalf("Get(%d): %v %v, not %v", n, x, there, want)
		}
		if l, want := a.Kids(n), p.kids(n); !slices.Equal(l, want) {
			t.Fatalf("Kids(%d) of %v: %v, not %v", n, p, l, want)
		}
		if l, want := a.Below(n), p.below(n); !slices.Equal(l, want) {
			t.Fatalf("Below(%d) of %v: %v, not %v", n, p, l, want)
		}
		if m, want := a.Depth(n), p.depth(n); m != want {
			t.Fatalf("Depth(%d) of %v: %d, not %d", n, p, m, want)
		}
	}
}

func noAccount(t *testing.T, a *Tree, n int) {
	t.Helper()
	if x, there := a.Get(n); x != (api.Account{}) || there {
		t.Fatalf("Get(%d): %v %v", n, x, there)
	}
	if l := a.Kids(n); len(l) != 0 {
		t.Fatalf("Kids(%d): %v", n, l)
	}
	if l := a.Below(n); len(l) != 0 {
		t.Fatalf("Below(%d): %v", n, l)
	}
	if m := a.Depth(n); m != -1 {
		t.Fatalf("Depth(%d): %d", n, m)
	}
}

func noName(t *testing.T, a *Tree, name string) {
	t.Helper()
	if n, there := a.Find(name); n != 0 || there {
		t.Fatalf("Find(%q): %d %v", name, n, there)
	}
}

// kin writes a list out: each text is a name and its parent's number; all have 1 share.
func kin(pairs ...string) plain {
	p := rootAlone()
	for _, x := range pairs {
		var a api.Account
		fmt.Sscan(x, &a.Name, &a.Parent)
		a.Shares = 1
		p = append(p, a)
	}
	return p
}

func loaded(t *testing.T, p plain) *Tree {
	t.Helper()
	a, e := Load(p)
	if a == nil || e != api.OK {
		t.Fatalf("Load(%v): %d", p, e)
	}
	return a
}

func is(t *testing.T, what string, e, want api.Errno) {
	t.Helper()
	if e != want {
		t.Errorf("%s: %d, not %d", what, e, want)
	}
}

func adds(t *testing.T, a *Tree, name, parent string, shares, n int, want api.Errno) {
	t.Helper()
	if m, e := a.Add(name, parent, shares); m != n || e != want {
		t.Errorf("Add(%q, %q, %d): %d %d, not %d %d", name, parent, shares, m, e, n, want)
	}
}

// full has 64 accounts: a chain that is 4 deep, and all others right below the root.
func full() plain {
	p := kin("a 0", "b 1", "c 2", "d 3")
	for len(p) < 64 {
		p = append(p, api.Account{Name: fmt.Sprint("x", len(p)), Shares: 1})
	}
	return p
}

// parentsOf goes through all lists of n numbers from 0 to n.
func parentsOf(n int) func(func([]int) bool) {
	return func(yield func([]int) bool) {
		l := make([]int, n)
		for {
			if !yield(l) {
				return
			}
			at := 0
			for at < n && l[at] == n {
				l[at] = 0
				at++
			}
			if at == n {
				return
			}
			l[at]++
		}
	}
}

func byParents(parents []int) plain {
	p := rootAlone()
	for n, parent := range parents {
		p = append(p, api.Account{Name: string(signs[n]), Parent: parent, Shares: n + 1})
	}
	return p
}

// trees goes through every tree of n accounts below the root that may be.
func trees(n int) func(func(plain) bool) {
	return func(yield func(plain) bool) {
		for parents := range parentsOf(n) {
			if p := byParents(parents); p.loads() == api.OK && !yield(p) {
				return
			}
		}
	}
}

func TestExamples(t *testing.T) {
	a := New()
	adds(t, a, "a", "root", 3, 1, api.OK)
	adds(t, a, "b", "a", 1, 2, api.OK)
	adds(t, a, "a", "root", 1, 0, api.ErrTreeThere)
	adds(t, a, "c", "x", 1, 0, api.ErrTreeNone)
	adds(t, a, "c d", "root", 1, 0, api.ErrTreeName)
	adds(t, a, "c", "root", 0, 0, api.ErrTreeShares)
	adds(t, a, "c", "b", 1, 3, api.OK)
	adds(t, a, "d", "c", 1, 4, api.OK)
	adds(t, a, "e", "d", 1, 0, api.ErrTreeDeep)
	is(t, "Move(a, c)", a.Move("a", "c"), api.ErrTreeBelow)
	is(t, "Move(a, a)", a.Move("a", "a"), api.ErrTreeBelow)
	is(t, "Move(root, a)", a.Move("root", "a"), api.ErrTreeRoot)
	is(t, "Move(c, root)", a.Move("c", "root"), api.OK)
	if l := a.Kids(0); !slices.Equal(l, []int{1, 3}) {
		t.Error("Kids(0):", l)
	}
	if l := a.Below(3); !slices.Equal(l, []int{3, 4}) {
		t.Error("Below(3):", l)
	}
	if n, m := a.Depth(4), a.Depth(9); n != 2 || m != -1 {
		t.Error("Depth:", n, m)
	}
	adds(t, a, "e", "d", 1, 5, api.OK)
	if n := a.Depth(5); n != 3 {
		t.Error("Depth(5):", n)
	}
	is(t, "Move(d, b)", a.Move("d", "b"), api.OK)
	if n, m := a.Depth(4), a.Depth(5); n != 3 || m != 4 {
		t.Error("Depth of d and e:", n, m)
	}
	is(t, "Move(c, e)", a.Move("c", "e"), api.ErrTreeDeep)
	is(t, "Shares(root, 2)", a.Shares("root", 2), api.ErrTreeRoot)
	is(t, "Close(root)", a.Close("root"), api.ErrTreeRoot)
	is(t, "Shares(a, 4097)", a.Shares("a", 4097), api.ErrTreeShares)
	is(t, "Close(a)", a.Close("a"), api.OK)
	two := aRoot()
	two.Shares = 2
	for _, l := range []plain{nil, {}, {two}} {
		refused(t, l, api.ErrTreeRoot)
	}
	refused(t, kin("a 2", "b 1"), api.ErrTreeBelow)
}

func refused(t *testing.T, l plain, want api.Errno) {
	t.Helper()
	if a, e := Load(l); a != nil || e != want {
		t.Errorf("Load(%v): %v %d, not %d", l, a, e, want)
	}
}

func TestP61New(t *testing.T) {
	sameTree(t, New(), rootAlone())
	for _, n := range outside(1) {
		noAccount(t, New(), n)
	}
	a, b := New(), New()
	adds(t, a, "a", "root", 5, 1, api.OK)
	sameTree(t, b, rootAlone())
	sameTree(t, New(), rootAlone())
}

func TestP62LoadWithoutRoot(t *testing.T) {
	for name, change := range map[string]func(*api.Account){
		"no name":          func(a *api.Account) { a.Name = "" },
		"another name":     func(a *api.Account) { a.Name = "a" },
		"a great letter":   func(a *api.Account) { a.Name = "Root" },
		"a longer name":    func(a *api.Account) { a.Name = "root " },
		"parent 0":         func(a *api.Account) { a.Parent = 0 },
		"parent 1":         func(a *api.Account) { a.Parent = 1 },
		"parent -2":        func(a *api.Account) { a.Parent = -2 },
		"no shares":        func(a *api.Account) { a.Shares = 0 },
		"2 shares":         func(a *api.Account) { a.Shares = 2 },
		"less than none":   func(a *api.Account) { a.Shares = -1 },
		"closed":           func(a *api.Account) { a.Closed = true },
		"nothing of it is": func(a *api.Account) { *a = api.Account{} },
	} {
		t.Run(name, func(t *testing.T) {
			wrong := aRoot()
			change(&wrong)
			refused(t, plain{wrong}, api.ErrTreeRoot)
			refused(t, append(plain{wrong}, kin("a 0")[1:]...), api.ErrTreeRoot)
			// It is told ahead of all else that is wrong: with others, with how many there are.
			refused(t, append(plain{wrong}, kin("?? 9", "a 2", "a 2")[1:]...), api.ErrTreeRoot)
			refused(t, append(plain{wrong}, make(plain, 64)...), api.ErrTreeRoot)
		})
	}
	refused(t, append(kin("a 0")[1:], aRoot()), api.ErrTreeRoot)
	refused(t, nil, api.ErrTreeRoot)
	refused(t, plain{}, api.ErrTreeRoot)
	refused(t, make(plain, 0, 9), api.ErrTreeRoot)
}

func TestP62LoadMany(t *testing.T) {
	p := full()
	sameTree(t, loaded(t, p), p)
	sameTree(t, loaded(t, p[:63]), p[:63])
	more := append(slices.Clone(p), api.Account{Name: "y", Shares: 1})
	refused(t, more, api.ErrTreeMany)
	refused(t, append(rootAlone(), make(plain, 1<<16)...), api.ErrTreeMany)
	// That there are too many is told ahead of what is wrong with one.
	for _, wrong := range []api.Account{{Name: "?", Shares: 1}, {Name: "root", Shares: 1}, {Name: "a", Parent: 99, Shares: 1}, {Name: "a"}, {Name: "a", Parent: 1, Shares: 1}} {
		more[1] = wrong
		refused(t, more, api.ErrTreeMany)
	}
}

func TestP62LoadNames(t *testing.T) {
	for _, name := range rightNames() {
		p := append(kin("other 0"), api.Account{Name: name, Parent: 1, Shares: 1})
		sameTree(t, loaded(t, p), p)
	}
	for _, name := range wrongNames() {
		p := append(kin("other 0"), api.Account{Name: name, Parent: 1, Shares: 1})
		refused(t, p, api.ErrTreeName)
	}
	for sign := range 256 {
		p := append(rootAlone(), api.Account{Name: "a" + string([]byte{byte(sign)}), Shares: 1})
		want := api.ErrTreeName
		if strings.IndexByte(signs, byte(sign)) >= 0 {
			want = api.OK
		}
		if _, e := Load(p); e != want {
			t.Errorf("a name with the byte %d: %d, not %d", sign, e, want)
		}
	}
	// Names that differ in a letter's case alone are unlike.
	p := kin("a 0", "A 0", "Root 0", "ROOT 0", "a- 0", "a_ 0", "aa 0")
	sameTree(t, loaded(t, p), p)
}

func rightNames() []string {
	l := []string{strings.Repeat("a", 31), strings.Repeat("Z", 32), "-", "_", "--", "0", "-1", "root-", "Root", signs[:32], signs[32:]}
	for _, sign := range signs {
		l = append(l, string(sign))
	}
	return l
}

func TestP62LoadShares(t *testing.T) {
	for shares, want := range map[int]api.Errno{
		1: api.OK, 2: api.OK, 4095: api.OK, 4096: api.OK,
		0: api.ErrTreeShares, -1: api.ErrTreeShares, 4097: api.ErrTreeShares, 1<<32 + 1: api.ErrTreeShares, math.MaxInt: api.ErrTreeShares, math.MinInt: api.ErrTreeShares,
	} {
		p := kin("a 0", "b 1", "c 0")
		p[2].Shares = shares
		if want != api.OK {
			refused(t, p, want)
			continue
		}
		sameTree(t, loaded(t, p), p)
	}
}

func TestP62LoadParents(t *testing.T) {
	for _, n := range outside(4) {
		for place := 1; place <= 3; place++ {
			p := kin("a 0", "b 0", "c 0")
			p[place].Parent = n
			refused(t, p, api.ErrTreeNone)
		}
	}
	// A parent may have the greater number, the list's last one among them.
	for _, p := range []plain{kin("a 2", "b 0"), kin("a 3", "b 1", "c 0"), kin("a 2", "b 3", "c 4", "d 0"), kin("a 3", "b 3", "c 0"), kin("b 0", "c 4", "d 1", "a 3")} {
		sameTree(t, loaded(t, p), p)
	}
}

func TestP62LoadCircles(t *testing.T) {
	for _, p := range []plain{
		kin("a 1"),                                           // itself
		kin("a 2", "b 1"),                                    // two
		kin("a 0", "b 2"),                                    // itself, behind a right one
		kin("a 2", "b 3", "c 1"),                             // three
		kin("a 2", "b 3", "c 2"),                             // one that comes to a circle, and is not in it
		kin("a 0", "b 1", "c 4", "d 3"),                      // beside a right part
		kin("a 2", "b 3", "c 4", "d 5", "e 1"),               // longer than a way may be deep
		kin("a 2", "b 3", "c 4", "d 5", "e 5"),               // one that comes there by a way that is too long
		kin("a 5", "b 1", "c 2", "d 3", "e 4"),               // against the numbers' order
		kin("a 0", "b 1", "c 2", "d 3", "e 5"),               // beside one that is just as deep as may be
		kin("a 0", "b 2", "c 1", "d 3", "e 4"),               // the circle has the smaller number than who would be deep
		kin("a 0", "b 1", "c 7", "d 2", "e 4", "f 5", "g 3"), // and than who is too deep
	} {
		refused(t, p, api.ErrTreeBelow)
	}
	circle := rootAlone()
	for n := 1; n < 64; n++ {
		circle = append(circle, api.Account{Name: fmt.Sprint("x", n), Parent: n%63 + 1, Shares: 1})
	}
	refused(t, circle, api.ErrTreeBelow)
	circle[63].Parent = 0
	refused(t, circle, api.ErrTreeDeep)
}

func TestP62LoadDeep(t *testing.T) {
	for _, p := range []plain{kin("a 0", "b 1", "c 2", "d 3"), kin("a 2", "b 3", "c 4", "d 0"), kin("a 0", "b 1", "c 2", "d 3", "e 3", "f 2", "g 6")} {
		sameTree(t, loaded(t, p), p)
	}
	for _, p := range []plain{
		kin("a 0", "b 1", "c 2", "d 3", "e 4"),
		kin("a 2", "b 3", "c 4", "d 5", "e 0"),
		kin("a 0", "b 1", "c 2", "d 3", "e 4", "f 5"),
		kin("a 0", "b 1", "c 2", "d 3", "e 4", "f 6"),        // too deep, and behind it a circle
		kin("a 2", "b 3", "c 4", "d 5", "e 0", "f 6"),        // the same, with the greater numbers as parents
		kin("a 2", "b 3", "c 4", "d 5", "e 0", "f 7", "g 6"), // and a circle of two
	} {
		refused(t, p, api.ErrTreeDeep)
	}
}

// P6.2: two things that are wrong, with one account and with two: the account with the smaller number is told, and of it what is named first.
func TestP62LoadOrder(t *testing.T) {
	right := api.Account{Name: "a", Shares: 1}
	wrong := []struct {
		e      api.Errno
		change func(*api.Account)
	}{
		{api.ErrTreeName, func(a *api.Account) { a.Name = "?" }},
		{api.ErrTreeThere, func(a *api.Account) { a.Name = "root" }},
		{api.ErrTreeNone, func(a *api.Account) { a.Parent = 4 }},
		{api.ErrTreeShares, func(a *api.Account) { a.Shares = 0 }},
	}
	for i, one := range wrong {
		for j, other := range wrong {
			both := right
			other.change(&both)
			one.change(&both)
			// Of one account: a name is either none or there, so the last change is what stands.
			want := one.e
			if j < i && !(i == 1 && j == 0) {
				want = other.e
			}
			refused(t, append(rootAlone(), both), want)
			// Of two accounts.
			p := kin("x 0", "y 0", "z 0")
			one.change(&p[1])
			other.change(&p[3])
			refused(t, p, one.e)
		}
		// Ahead of any circle, and of any that is too deep, whatever their numbers are.
		circle, deep := kin("x 1", "y 2", "z 0"), kin("s 0", "t 1", "u 2", "v 3", "x 4", "z 0")
		for _, p := range []plain{circle, deep} {
			last := &p[len(p)-1]
			one.change(last)
			if one.e == api.ErrTreeNone {
				last.Parent = len(p)
			}
			refused(t, p, one.e)
		}
	}
	// A name that is there, and is none, is none: the second one is not come to.
	refused(t, kin("? 0", "? 0"), api.ErrTreeName)
	// Of two of one name the second one is wrong; so what is wrong with one between them comes first.
	refused(t, kin("a 0", "b 9", "a 0"), api.ErrTreeNone)
	refused(t, kin("a 0", "a 9", "? 0"), api.ErrTreeThere)
	refused(t, kin("a 9", "a 0"), api.ErrTreeNone)
	// Its own number, with a name that is there.
	refused(t, kin("a 0", "a 2"), api.ErrTreeThere)
}

// P6.2, P6.7: all short lists with all that may be wrong with each.
func TestP62LoadAll(t *testing.T) {
	var kinds plain
	for _, name := range []string{"a", "b", "root", "a b"} {
		for parent := -1; parent <= 4; parent++ {
			for _, shares := range []int{0, 7} {
				kinds = append(kinds, api.Account{Name: name, Parent: parent, Shares: shares, Closed: parent == 2})
			}
		}
	}
	for _, one := range kinds {
		for _, other := range kinds {
			sameLoad(t, plain{aRoot(), one, other})
			for _, third := range kinds {
				sameLoad(t, plain{aRoot(), one, other, third})
			}
		}
	}
}

// P6.2, P6.7: all that may be whose parent, for so many that a way can be too deep, and a circle beside it.
func TestP62LoadAllParents(t *testing.T) {
	for n := range 7 {
		for parents := range parentsOf(n) {
			sameLoad(t, byParents(parents))
		}
	}
}

func sameLoad(t *testing.T, p plain) {
	t.Helper()
	want := p.loads()
	a, e := Load(p)
	if e != want || (a == nil) != (e != api.OK) {
		t.Fatalf("Load(%v): %v %d, not %d", p, a, e, want)
	}
	if e == api.OK {
		sameTree(t, a, p)
	}
}

func TestP63Add(t *testing.T) {
	a, p := New(), rootAlone()
	for i, x := range []struct {
		name, parent string
		shares       int
	}{{"a", "root", 1}, {"b", "a", 4096}, {"c", "b", 7}, {"d", "c", 1}, {"e", "c", 2}, {"f", "root", 3}, {"g", "a", 4}} {
		adds(t, a, x.name, x.parent, x.shares, i+1, api.OK)
		p.add(x.name, x.parent, x.shares)
		sameTree(t, a, p)
	}
	for _, name := range rightNames() {
		a := New()
		adds(t, a, name, "root", 1, 1, api.OK)
		sameTree(t, a, append(rootAlone(), api.Account{Name: name, Shares: 1}))
	}
	// One can be added to a closed account, and is not closed itself.
	is(t, "Close", a.Close("a"), api.OK)
	p.close("a")
	adds(t, a, "h", "a", 4, 8, api.OK)
	p.add("h", "a", 4)
	sameTree(t, a, p)
}

func TestP63AddWrong(t *testing.T) {
	p := kin("a 0", "b 1", "c 2", "d 3", "x 0")
	a := loaded(t, p)
	for _, name := range wrongNames() {
		adds(t, a, name, "root", 1, 0, api.ErrTreeName)
		adds(t, a, "new", name, 1, 0, api.ErrTreeNone)
	}
	for _, name := range []string{"root", "a", "d", "x"} {
		adds(t, a, name, "root", 1, 0, api.ErrTreeThere)
	}
	for _, parent := range []string{"new", "Root", "A", "y", "roo", "roott"} {
		adds(t, a, "new", parent, 1, 0, api.ErrTreeNone)
	}
	for _, shares := range []int{0, -1, 4097, 1 << 32, 1<<32 + 1, math.MaxInt, math.MinInt} {
		adds(t, a, "new", "root", shares, 0, api.ErrTreeShares)
	}
	adds(t, a, "new", "d", 1, 0, api.ErrTreeDeep)
	sameTree(t, a, p)
	adds(t, a, "new", "c", 4096, 6, api.OK)
}

func TestP63AddMany(t *testing.T) {
	a := New()
	for n := 1; n < 64; n++ {
		adds(t, a, fmt.Sprint("x", n), "root", 1, n, api.OK)
	}
	adds(t, a, "y", "root", 1, 0, api.ErrTreeMany)
	adds(t, a, "y", "x9", 1, 0, api.ErrTreeMany)
	if a.Len() != 64 {
		t.Error(a.Len())
	}
	noName(t, a, "y")
	// Closing one does not make room.
	a.Close("x1")
	adds(t, a, "y", "root", 1, 0, api.ErrTreeMany)
	b := loaded(t, full()[:63])
	adds(t, b, "y", "c", 1, 63, api.OK)
	adds(t, b, "z", "c", 1, 0, api.ErrTreeMany)
}

// P6.3: all that may be wrong at once, the first one told.
func TestP63AddOrder(t *testing.T) {
	wrong := []api.Errno{api.ErrTreeName, api.ErrTreeThere, api.ErrTreeNone, api.ErrTreeShares, api.ErrTreeDeep, api.ErrTreeMany}
	for bits := range 1 << len(wrong) {
		has := func(e api.Errno) bool { return bits>>slices.Index(wrong, e)&1 == 1 }
		if has(api.ErrTreeName) && has(api.ErrTreeThere) || has(api.ErrTreeNone) && has(api.ErrTreeDeep) {
			continue // Nothing is both.
		}
		p, name, parent, shares := full(), "new", "c", 1
		if !has(api.ErrTreeMany) {
			p = p[:63]
		}
		if has(api.ErrTreeName) {
			name = "ne w"
		}
		if has(api.ErrTreeThere) {
			name = "x9"
		}
		if has(api.ErrTreeNone) {
			parent = "nobody"
		}
		if has(api.ErrTreeDeep) {
			parent = "d"
		}
		if has(api.ErrTreeShares) {
			shares = 4097
		}
		want, number := api.OK, 63
		for _, e := range slices.Backward(wrong) {
			if has(e) {
				want, number = e, 0
			}
		}
		a := loaded(t, p)
		adds(t, a, name, parent, shares, number, want)
		if want != api.OK {
			sameTree(t, a, p)
		}
	}
}

func TestP64Shares(t *testing.T) {
	p := kin("a 0", "b 1", "c 1")
	a := loaded(t, p)
	for _, shares := range []int{1, 2, 4095, 4096, 4096, 1} {
		for _, name := range []string{"a", "c"} {
			is(t, "Shares", a.Shares(name, shares), api.OK)
			p.shares(name, shares)
			sameTree(t, a, p)
		}
	}
	for _, shares := range []int{0, -1, 4097, 1 << 32, 1<<32 + 1, math.MaxInt, math.MinInt} {
		is(t, "Shares of a", a.Shares("a", shares), api.ErrTreeShares)
		is(t, "Shares of root", a.Shares("root", shares), api.ErrTreeRoot)
		is(t, "Shares of none", a.Shares("x", shares), api.ErrTreeNone)
	}
	is(t, "Shares of root", a.Shares("root", 1), api.ErrTreeRoot)
	is(t, "Shares of none", a.Shares("x", 1), api.ErrTreeNone)
	sameTree(t, a, p)
	// One that is closed may be given others.
	is(t, "Close", a.Close("b"), api.OK)
	is(t, "Shares of one that is closed", a.Shares("b", 9), api.OK)
	p.close("b")
	p.shares("b", 9)
	sameTree(t, a, p)
}

func TestP64Close(t *testing.T) {
	p := kin("a 0", "b 1", "c 1")
	a := loaded(t, p)
	for _, name := range []string{"b", "b", "a", "b"} {
		is(t, "Close", a.Close(name), api.OK)
		p.close(name)
		// Those below it are not closed by it.
		sameTree(t, a, p)
	}
	is(t, "Close of root", a.Close("root"), api.ErrTreeRoot)
	for _, name := range append(wrongNames(), "x", "Root", "A") {
		is(t, "Close of none", a.Close(name), api.ErrTreeNone)
	}
	sameTree(t, a, p)
}

func TestP64Move(t *testing.T) {
	p := kin("a 0", "b 1", "c 2", "d 3", "x 0", "y 5")
	a := loaded(t, p)
	for _, x := range [][2]string{{"d", "root"}, {"d", "y"}, {"c", "y"}, {"x", "b"}, {"b", "root"}, {"a", "y"}, {"d", "a"}, {"d", "a"}} {
		want := p.move(x[0], x[1])
		is(t, fmt.Sprint("Move of ", x), a.Move(x[0], x[1]), want)
		sameTree(t, a, p)
	}
	// One that is closed, and to one that is closed.
	a.Close("c")
	p.close("c")
	for _, x := range [][2]string{{"c", "root"}, {"d", "c"}} {
		is(t, fmt.Sprint("Move of ", x), a.Move(x[0], x[1]), api.OK)
		p.move(x[0], x[1])
		sameTree(t, a, p)
	}
}

func TestP64MoveWrong(t *testing.T) {
	p := kin("a 0", "b 1", "c 2", "d 3", "x 0", "y 5", "z 6")
	a := loaded(t, p)
	for _, x := range []struct {
		name, parent string
		want         api.Errno
	}{
		{"nobody", "root", api.ErrTreeNone}, {"nobody", "nobody", api.ErrTreeNone}, {"nobody", "a", api.ErrTreeNone}, {"", "", api.ErrTreeNone}, {"Root", "a", api.ErrTreeNone},
		{"root", "a", api.ErrTreeRoot}, {"root", "root", api.ErrTreeRoot}, {"root", "nobody", api.ErrTreeRoot}, {"root", "d", api.ErrTreeRoot}, {"root", "", api.ErrTreeRoot},
		{"a", "nobody", api.ErrTreeNone}, {"d", "", api.ErrTreeNone}, {"d", "Root", api.ErrTreeNone},
		{"a", "a", api.ErrTreeBelow}, {"d", "d", api.ErrTreeBelow}, {"a", "b", api.ErrTreeBelow}, {"a", "c", api.ErrTreeBelow}, {"b", "d", api.ErrTreeBelow},
		{"a", "d", api.ErrTreeBelow},                             // too deep as well
		{"x", "d", api.ErrTreeDeep},                              // it is 5 deep itself
		{"z", "d", api.ErrTreeDeep},                              // likewise, with none below it
		{"a", "x", api.ErrTreeDeep},                              // d would be 5 deep, below it
		{"b", "y", api.ErrTreeDeep},                              // likewise
		{"x", "b", api.ErrTreeDeep},                              // z would be 5 deep
		{"y", "c", api.ErrTreeDeep}, {"c", "z", api.ErrTreeDeep}, // z and d would be 5 deep
	} {
		is(t, fmt.Sprintf("Move(%q, %q)", x.name, x.parent), a.Move(x.name, x.parent), x.want)
		sameTree(t, a, p)
	}
	// Just as deep as may be.
	for _, x := range [][2]string{{"y", "b"}, {"y", "x"}, {"z", "c"}, {"z", "y"}, {"x", "a"}, {"x", "root"}, {"b", "x"}} {
		is(t, fmt.Sprint("Move of ", x), a.Move(x[0], x[1]), api.OK)
		p.move(x[0], x[1])
		sameTree(t, a, p)
	}
}

// P6.4, P6.9: every move in every small tree, there and back.
func TestP64MoveAll(t *testing.T) {
	for n := range 6 {
		for p := range trees(n) {
			a := loaded(t, p)
			for _, who := range p {
				for _, to := range p {
					moved := slices.Clone(p)
					want := moved.move(who.Name, to.Name)
					if e := a.Move(who.Name, to.Name); e != want {
						t.Fatalf("Move(%s, %s) of %v: %d, not %d", who.Name, to.Name, p, e, want)
					}
					sameTree(t, a, moved)
					if want != api.OK {
						continue
					}
					is(t, "Move back", a.Move(who.Name, p[who.Parent].Name), api.OK)
					sameTree(t, a, p)
				}
			}
		}
	}
}

// P6.9: the three kinds of calls that change nothing, of trees with shares, and with some that are closed.
func TestP69MoveToItsParent(t *testing.T) {
	for seed := range uint64(60) {
		a, p := grown(t, seed, 120)
		for _, x := range p[1:] {
			is(t, "Move to the parent that it has", a.Move(x.Name, p[x.Parent].Name), api.OK)
			sameTree(t, a, p)
		}
	}
}

func TestP69ThereAndBack(t *testing.T) {
	for seed := range uint64(40) {
		a, p := grown(t, seed<<8, 150)
		d := dice(seed)
		for range 60 {
			who, to := p[d.below(len(p))], p[d.below(len(p))]
			if a.Move(who.Name, to.Name) == api.OK {
				is(t, "Move back", a.Move(who.Name, p[who.Parent].Name), api.OK)
			}
			sameTree(t, a, p)
		}
	}
}

// step does one call of a kind that the dice choose to both, and holds what they answer against each other.
func step(t *testing.T, d *dice, a *Tree, p *plain) {
	t.Helper()
	name, parent := anyName(d, *p), anyName(d, *p)
	shares := []int{1, 1, 4096, 4097, 0, 2 + d.below(100)}[d.below(6)]
	var e, want api.Errno
	switch d.below(8) {
	default:
		if d.below(4) > 0 {
			name = fmt.Sprint("n", d.below(100))
		}
		var n, m int
		n, e = a.Add(name, parent, shares)
		m, want = p.add(name, parent, shares)
		if n != m {
			t.Fatalf("Add(%q, %q, %d): %d, not %d", name, parent, shares, n, m)
		}
	case 0:
		e, want = a.Shares(name, shares), p.shares(name, shares)
	case 1, 2, 3:
		e, want = a.Move(name, parent), p.move(name, parent)
	case 4:
		e, want = a.Close(name), p.close(name)
	}
	if e != want {
		t.Fatalf("%q %q %d of %v: %d, not %d", name, parent, shares, *p, e, want)
	}
}

func anyName(d *dice, p plain) string {
	if d.below(10) == 0 {
		return []string{"", "nobody", "a b", "Root", "root", "root"}[d.below(6)]
	}
	return p[d.below(len(p))].Name
}

func grown(t *testing.T, seed uint64, steps int) (*Tree, plain) {
	t.Helper()
	d := dice(seed << 20)
	a, p := New(), rootAlone()
	for range steps {
		step(t, &d, a, &p)
	}
	return a, p
}

// P6.3 to P6.5, P6.9: calls of all kinds in any order, refused ones among them, and after each all that the tree tells.
func TestAnyCalls(t *testing.T) {
	for seed := range uint64(30) {
		d := dice(seed << 40)
		a, p := New(), rootAlone()
		for range 300 {
			step(t, &d, a, &p)
			sameTree(t, a, p)
		}
		for _, n := range outside(len(p)) {
			if !p.has(n) {
				noAccount(t, a, n)
			}
		}
	}
}

func TestP65NoAccount(t *testing.T) {
	for _, p := range []plain{rootAlone(), kin("a 0"), kin("a 2", "b 0", "c 1"), full()} {
		a := loaded(t, p)
		for _, n := range outside(len(p)) {
			noAccount(t, a, n)
		}
		for _, name := range append(wrongNames(), "nobody", "Root", "roo", "root2", "A") {
			noName(t, a, name)
		}
	}
	// One that was refused has no name and no number.
	a := New()
	adds(t, a, "a", "nobody", 1, 0, api.ErrTreeNone)
	adds(t, a, "a", "root", 0, 0, api.ErrTreeShares)
	noName(t, a, "a")
	noAccount(t, a, 1)
}

// P6.5: lists rise whatever the order was in which the accounts came below their parent; asked often, as no order of a map is to be seen.
func TestP65Rising(t *testing.T) {
	p := full()
	a := loaded(t, p)
	for n := 63; n >= 5; n-- {
		name := p[n].Name
		is(t, "Move", a.Move(name, "c"), api.OK)
		p.move(name, "c")
	}
	for range 50 {
		sameTree(t, a, p)
	}
}

// P6.5: usage does not belong to a tree.
func TestUsageIsNotSeen(t *testing.T) {
	p := kin("a 2", "b 0", "c 1")
	with := slices.Clone(p)
	for n := range with {
		with[n].Usage = math.MaxUint64 - uint64(n)
	}
	a := loaded(t, with)
	sameTree(t, a, p)
	sameTree(t, a.Clone(), p)
	is(t, "Move", a.Move("b", "root"), api.OK)
	is(t, "Shares", a.Shares("c", 1), api.OK)
	sameTree(t, a, p)
}

func TestP66Clone(t *testing.T) {
	for seed := range uint64(30) {
		a, p := grown(t, seed, 60)
		b, q := a.Clone(), slices.Clone(p)
		sameTree(t, b, q)
		d := dice(seed << 30)
		for range 60 {
			step(t, &d, a, &p)
			sameTree(t, a, p)
			sameTree(t, b, q)
		}
		for range 60 {
			step(t, &d, b, &q)
			sameTree(t, a, p)
			sameTree(t, b, q)
		}
		// One of the clone, when both have gone their own way.
		c, r := b.Clone(), slices.Clone(q)
		for range 30 {
			step(t, &d, c, &r)
		}
		sameTree(t, a, p)
		sameTree(t, b, q)
		sameTree(t, c, r)
	}
}

// P6.6: each change by itself, at the one and at the other.
func TestP66CloneEach(t *testing.T) {
	p := kin("a 0", "b 1", "c 0")
	changes := map[string]func(*Tree) api.Errno{
		"Add":    func(a *Tree) api.Errno { _, e := a.Add("d", "b", 2); return e },
		"Shares": func(a *Tree) api.Errno { return a.Shares("b", 9) },
		"Move":   func(a *Tree) api.Errno { return a.Move("b", "c") },
		"Close":  func(a *Tree) api.Errno { return a.Close("b") },
	}
	for name, change := range changes {
		a := loaded(t, p)
		b := a.Clone()
		is(t, name, change(a), api.OK)
		sameTree(t, b, p)
		c := b.Clone()
		is(t, name, change(c), api.OK)
		sameTree(t, b, p)
		if !slices.Equal(a.List(), c.List()) {
			t.Errorf("%s: %v at the first, %v at the clone", name, a.List(), c.List())
		}
		noName(t, b, "d")
	}
	// Both add: each has its own next number.
	a := New()
	b := a.Clone()
	adds(t, a, "x", "root", 1, 1, api.OK)
	adds(t, b, "y", "root", 2, 1, api.OK)
	sameTree(t, a, plain{aRoot(), {Name: "x", Shares: 1}})
	sameTree(t, b, plain{aRoot(), {Name: "y", Shares: 2}})
}

func TestP67LoadOfList(t *testing.T) {
	for seed := range uint64(40) {
		a, p := grown(t, seed, 200)
		b := loaded(t, a.List())
		sameTree(t, b, p)
		// It answers alike from then on, too.
		q, d := slices.Clone(p), dice(seed<<33)
		for range 60 {
			step(t, &d, b, &q)
		}
		sameTree(t, b, q)
		sameTree(t, a, p)
	}
}

// P6.8, said without the plain form.
func TestP68KidsAndBelow(t *testing.T) {
	check := func(a *Tree) {
		t.Helper()
		parents := make([]int, a.Len())
		for n := range a.Len() {
			together := []int{n}
			for _, kid := range a.Kids(n) {
				parents[kid]++
				together = append(together, a.Below(kid)...)
				if x, _ := a.Get(kid); x.Parent != n || a.Depth(kid) != a.Depth(n)+1 {
					t.Fatalf("%d in Kids(%d), and its parent is %d", kid, n, x.Parent)
				}
			}
			slices.Sort(together)
			if l := a.Below(n); !slices.Equal(l, together) || len(slices.Compact(together)) != len(l) {
				t.Fatalf("Below(%d): %v, and together %v", n, l, together)
			}
		}
		for n, times := range parents {
			if times != min(n, 1) {
				t.Fatalf("%d is in the Kids of %d", n, times)
			}
		}
		for i, n := range a.Below(0) {
			if i != n {
				t.Fatalf("Below(0): %v", a.Below(0))
			}
		}
		if len(a.Below(0)) != a.Len() {
			t.Fatalf("Below(0): %v of %d", a.Below(0), a.Len())
		}
	}
	for n := range 6 {
		for p := range trees(n) {
			check(loaded(t, p))
		}
	}
	for seed := range uint64(50) {
		a, _ := grown(t, seed<<5, 200)
		check(a)
		check(a.Clone())
	}
}

// R4: what is written into a list behind the call, and into the room behind its end, is not seen, and the call writes nothing there.
func TestHandedInStays(t *testing.T) {
	for _, p := range []plain{kin("a 2", "b 0", "c 1"), kin("a 0", "b 1", "? 0"), kin("a 2", "b 1"), full()} {
		room := append(slices.Clone(p), api.Account{Name: "behind", Parent: 9, Shares: -1, Usage: 5})
		room[1].Usage = 77
		kept := slices.Clone(room)
		l := room[:len(p)]
		a, e := Load(l)
		if !slices.Equal(room, kept) {
			t.Fatalf("%v was made %v", kept, room)
		}
		if e != api.OK {
			continue
		}
		for n := range room {
			room[n] = api.Account{Name: "zz", Parent: n, Shares: 99, Closed: true}
		}
		sameTree(t, a, p)
		a.Close("a")
		a.Move("c", "root")
		a.Add("d", "a", 1)
		if room[0].Name != "zz" || room[1] != (api.Account{Name: "zz", Parent: 1, Shares: 99, Closed: true}) || room[len(p)].Name != "zz" {
			t.Error("a tree writes into the list that it was loaded from:", room)
		}
	}
}

// R4: what a caller writes into an answer, or behind its end, no other answer shows.
func TestAnswersAreNewMemory(t *testing.T) {
	scribble := func(l []int) {
		l = l[:cap(l)]
		for i := range l {
			l[i] = -7
		}
	}
	scrawl := func(l []api.Account) {
		l = l[:cap(l)]
		for i := range l {
			l[i] = api.Account{Name: "zz", Parent: -7}
		}
	}
	for seed := range uint64(20) {
		a, p := grown(t, seed, 100)
		b := a.Clone()
		first := a.List()
		scrawl(a.List())
		if !slices.Equal(first, p) {
			t.Fatal("an earlier list shows a later one's change")
		}
		scrawl(first)
		sameTree(t, a, p)
		for n := range p {
			kids, below := a.Kids(n), a.Below(n)
			scribble(a.Kids(n))
			scribble(a.Below(n))
			if !slices.Equal(kids, p.kids(n)) || !slices.Equal(below, p.below(n)) {
				t.Fatal("an earlier list shows a later one's change")
			}
			scribble(kids)
			scribble(below)
			sameTree(t, a, p)
		}
		d := dice(seed)
		for range 20 {
			step(t, &d, a, &p)
		}
		sameTree(t, a, p)
		if !slices.Equal(loaded(t, b.List()).List(), b.List()) {
			t.Fatal(b.List())
		}
	}
}

// R4: an answer stays as it was, whatever is done to the tree behind it.
func TestAnswersStay(t *testing.T) {
	a, p := grown(t, 5, 100)
	list := a.List()
	var lists [][]int
	for n := range p {
		lists = append(lists, a.Kids(n), a.Below(n))
	}
	before := slices.Clone(p)
	d := dice(8)
	for range 200 {
		step(t, &d, a, &p)
	}
	if !slices.Equal(list, before) {
		t.Error("List:", list)
	}
	for n := range before {
		if !slices.Equal(lists[2*n], before.kids(n)) || !slices.Equal(lists[2*n+1], before.below(n)) {
			t.Error("of", n, lists[2*n], lists[2*n+1])
		}
	}
}

// R5: asking changes nothing, also from several sides at once.
func TestAskedSideBySide(t *testing.T) {
	a, p := grown(t, 3, 200)
	told := make([][]int, 8)
	var all sync.WaitGroup
	for i := range told {
		all.Go(func() {
			for n := range p {
				told[i] = slices.Concat(told[i], a.Kids(n), a.Below(n), []int{a.Depth(n), len(a.List()), a.Clone().Len()})
			}
		})
	}
	all.Wait()
	for _, l := range told {
		if !slices.Equal(l, told[0]) {
			t.Error(l)
		}
	}
	sameTree(t, a, p)
}

// P6.9: each call that is refused, of one tree, by itself.
func TestP69Refused(t *testing.T) {
	p := full()
	p[9].Closed = true
	a := loaded(t, p)
	for name, call := range map[string]func() api.Errno{
		"Add of no name":           func() api.Errno { _, e := a.Add("", "root", 1); return e },
		"Add of root":              func() api.Errno { _, e := a.Add("root", "a", 1); return e },
		"Add of one that is there": func() api.Errno { _, e := a.Add("x9", "a", 2); return e },
		"Add to none":              func() api.Errno { _, e := a.Add("new", "new", 2); return e },
		"Add without shares":       func() api.Errno { _, e := a.Add("new", "a", 0); return e },
		"Add too deep":             func() api.Errno { _, e := a.Add("new", "d", 2); return e },
		"Add of one too many":      func() api.Errno { _, e := a.Add("new", "a", 2); return e },
		"Shares of none":           func() api.Errno { return a.Shares("new", 2) },
		"Shares of root":           func() api.Errno { return a.Shares("root", 2) },
		"no Shares":                func() api.Errno { return a.Shares("x9", 0) },
		"too great Shares":         func() api.Errno { return a.Shares("x9", 4097) },
		"Move of none":             func() api.Errno { return a.Move("new", "x9") },
		"Move of root":             func() api.Errno { return a.Move("root", "x9") },
		"Move to none":             func() api.Errno { return a.Move("x9", "new") },
		"Move to itself":           func() api.Errno { return a.Move("b", "b") },
		"Move below itself":        func() api.Errno { return a.Move("b", "d") },
		"Move too deep":            func() api.Errno { return a.Move("x9", "d") },
		"Move of others too deep":  func() api.Errno { return a.Move("a", "x9") },
		"Close of none":            func() api.Errno { return a.Close("new") },
		"Close of root":            func() api.Errno { return a.Close("root") },
	} {
		if call() == api.OK {
			t.Error(name, "was not refused")
		}
		sameTree(t, a, p)
	}
}

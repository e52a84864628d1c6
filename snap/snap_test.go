package snap

import (
	"bytes"
	"encoding/binary"
	"math"
	"slices"
	"strconv"
	"strings"
	"sync"
	"testing"

	"backfill/api"
	"backfill/audit"
	"backfill/core"
	"backfill/verbs"
)

// The tests hold the package against the form as it's written out here (a sheet), with errors as their numbers.

const (
	q     = uint64(1) << 32
	least = math.MinInt
	most  = math.MaxInt
)

// example is the config of DOC.md's examples.
func example() api.Config {
	return api.Config{Nodes: 4, Queue: 8, Limit: 10, Age: 1, Fair: 0, Size: 0, Period: 100, Half: 100}
}

// unlike has numbers of which no two, and no two bytes but those that are 0, are alike.
func unlike() api.Config {
	return api.Config{Nodes: 3, Queue: 5, Limit: 0x012245, Age: 0x0607, Fair: 0x08090a, Size: 0x0b0c, Period: 0x0d0e, Half: 0x0f1011}
}

// greatest has as many nodes, as long a queue and as long jobs as may be.
func greatest() api.Config {
	return api.Config{Nodes: 256, Queue: 128, Limit: 1 << 20, Age: 1, Fair: 0, Size: 1 << 20, Period: 100, Half: 100}
}

func account(name string, parent int) api.Account {
	return api.Account{Name: name, Parent: parent, Shares: 1}
}

func fresh(c api.Config) api.State {
	return api.State{Config: c, Accounts: []api.Account{account("root", -1)}, Holder: -1}
}

// numbers are first, first + 1 .., so many.
func numbers(first, many int) []int {
	l := make([]int, many)
	for i := range l {
		l[i] = first + i
	}
	return l
}

func longName() string { return strings.Repeat("Az09-_bC", 4) }

// states is one with jobs of each State, accounts that are closed, and names of one byte and of the longest; at the clock 20, a below z below the root.
func states() api.State {
	s := api.State{Config: example(), Now: 20, Holder: 7}
	s.Accounts = []api.Account{
		account("root", -1),
		{Name: "a", Parent: 2, Shares: 4096, Closed: true, Usage: 44 * q},
		{Name: "z", Parent: 0, Shares: 7, Usage: 18*q - 0x0102030405},
		{Name: longName(), Parent: 1, Shares: 1, Closed: true},
	}
	job := func(account, nodes, limit, submit, state, start, end int, set ...int) {
		s.Jobs = append(s.Jobs, api.Job{Account: account, Nodes: nodes, Limit: limit, Submit: submit, State: state, Start: start, End: end, Set: set})
	}
	job(1, 4, 10, 0, 4, 1, 11, 0, 1, 2, 3)
	job(2, 2, 10, 0, 3, 11, 20, 0, 3)
	job(2, 1, 5, 1, 5, 15, 15, 1)
	job(1, 1, 6, 15, 2, 16, 0, 1)
	job(2, 1, 1, 19, 2, 20, 0, 2)
	job(1, 4, 10, 19, 6, 0, 19)
	job(3, 1, 10, 19, 6, 0, 20)
	job(1, 4, 10, 19, 1, 0, 0)
	job(2, 2, 1, 20, 1, 0, 0)
	return s
}

// much has used as much as can be told: 2^32 node-ticks, and the greatest uint64.
func much() api.State {
	s := fresh(greatest())
	s.Accounts = append(s.Accounts, api.Account{Name: "a", Parent: 0, Shares: 1, Usage: math.MaxUint64})
	for n := range 16 {
		start := 1 + n<<20
		s.Jobs = append(s.Jobs, api.Job{Account: 1, Nodes: 256, Limit: 1 << 20, State: 4, Start: start, End: start + 1<<20, Set: numbers(0, 256)})
	}
	s.Now = 1 + 16<<20
	return s
}

// full has as many accounts and jobs as may be.
func full() api.State {
	s := fresh(example())
	for n := range 63 {
		name := strconv.Itoa(100 + n)
		s.Accounts = append(s.Accounts, account(longName()[:32-len(name)]+name, 0))
	}
	for n := range 4096 {
		s.Jobs = append(s.Jobs, api.Job{Account: 1 + n%63, Nodes: 1 + n%4, Limit: 1 + n%10, State: 6})
	}
	return s
}

// taken are states that audit takes.
func taken() []api.State {
	late := fresh(example())
	late.Now = 1 << 40
	one := states()
	one.Jobs, one.Holder = []api.Job{{Account: 3, Nodes: 4, Limit: 10, Submit: 19, State: 1}}, 0
	for n := range one.Accounts {
		one.Accounts[n].Usage = 0
	}
	return []api.State{fresh(example()), fresh(unlike()), fresh(greatest()), late, one, states(), much(), full()}
}

// auditSpoils makes states that audit refuses, by its errors in their order.
func auditSpoils() []struct {
	e     api.Errno
	spoil func(s *api.State)
} {
	return []struct {
		e     api.Errno
		spoil func(s *api.State)
	}{
		{170, func(s *api.State) { s.Config.Age = 0 }},
		{171, func(s *api.State) { s.Now = -1 }},
		{172, func(s *api.State) { s.Accounts[1].Name = "z" }},
		{174, func(s *api.State) { s.Jobs[3].Start = 14 }},
		{175, func(s *api.State) { s.Config.Queue = 1 }},
		{176, func(s *api.State) { s.Jobs[4].Set = []int{1} }},
		{173, func(s *api.State) { s.Accounts[1].Usage++ }},
		{177, func(s *api.State) { s.Holder = 8 }},
	}
}

// refusedStates are such that audit refuses: by each of its errors, and at the edges of the form.
func refusedStates() []api.State {
	l := []api.State{{}, {Holder: -1}, {Now: least, Holder: most}}
	// With as little in them as an account and a job can have.
	l = append(l, api.State{Accounts: make([]api.Account, 100)}, api.State{Jobs: make([]api.Job, 100)})
	for _, one := range auditSpoils() {
		s := states()
		one.spoil(&s)
		l = append(l, s)
	}
	with := func(change func(s *api.State)) {
		s := states()
		change(&s)
		l = append(l, s)
	}
	for _, name := range []string{"", "a b", "ä", "\x00", "\xff\xfe", longName() + "x", strings.Repeat("x", 1000)} {
		with(func(s *api.State) { s.Accounts[3].Name = name })
	}
	with(func(s *api.State) { s.Accounts = nil })
	with(func(s *api.State) { s.Accounts[0].Closed = true })
	with(func(s *api.State) { s.Accounts[2].Parent = -1 })
	with(func(s *api.State) { s.Jobs[8].Set = numbers(0, 2) })
	with(func(s *api.State) { s.Jobs[8].Set = numbers(-500, 1000) })
	with(func(s *api.State) { s.Jobs[0].Set = nil })
	with(func(s *api.State) { s.Jobs = append(s.Jobs, api.Job{Account: least, Nodes: most, State: -1}) })
	for _, grow := range []func(s *api.State){
		func(s *api.State) { s.Accounts = append(s.Accounts, account("more", 0)) },
		func(s *api.State) { s.Jobs = append(s.Jobs, s.Jobs[0]) },
	} {
		s := full()
		grow(&s)
		l = append(l, s)
	}
	return l
}

func put(t *testing.T, s api.State) []byte {
	t.Helper()
	b, e := Put(s)
	if e != 0 || !bytes.Equal(b, bytesOf(s)) {
		t.Fatalf("%s: %d, %s, not %s", short(s), e, short(b), short(bytesOf(s)))
	}
	return b
}

// got holds Get against the form, taken plainly; with an error all else is zero. What it tells audit takes, and its bytes are these (P19.4).
func got(t *testing.T, b []byte) (api.State, api.Errno) {
	t.Helper()
	s, e := Get(b)
	want, f := plainGet(b)
	if e != f || !sameState(s, want) {
		t.Fatalf("%s: %d %s, not %d %s", short(b), e, short(s), f, short(want))
	}
	if e == 0 && (audit.Check(s) != 0 || !bytes.Equal(put(t, s), b)) {
		t.Fatalf("%s are %s", short(b), short(s))
	}
	return s, e
}

// refuses holds Get and Restore against an error.
func refuses(t *testing.T, b []byte, want api.Errno) {
	t.Helper()
	if s, e := got(t, b); e != want || !sameState(s, api.State{}) {
		t.Fatalf("%s: %d %s, not %d", short(b), e, short(s), want)
	}
	if x, e := Restore(b); e != want || x != nil {
		t.Fatalf("%s: %d %v, not %d", short(b), e, x != nil, want)
	}
}

// with has other 8 bytes at a place.
func with(b []byte, at int, n uint64) []byte {
	b = bytes.Clone(b)
	binary.BigEndian.PutUint64(b[at:], n)
	return b
}

func cmd(t *testing.T, line string) api.Cmd {
	t.Helper()
	c, e := verbs.Parse(line)
	if e != 0 {
		t.Fatal(line, e)
	}
	return c
}

// begun is a core behind lines that are not refused.
func begun(t *testing.T, c api.Config, lines ...string) *core.Core {
	t.Helper()
	x, e := core.New(c)
	if e != 0 || x == nil {
		t.Fatal(c, e)
	}
	for _, line := range lines {
		if a := x.Do(cmd(t, line)); a.Code != 0 {
			t.Fatal(line, a.Code)
		}
	}
	return x
}

func loaded(t *testing.T, s api.State) *core.Core {
	t.Helper()
	x, e := core.Load(s)
	if e != 0 || x == nil {
		t.Fatalf("%s: %d", short(s), e)
	}
	return x
}

// restored is what comes back of a core: Save is the form of its State, and changes nothing (P19.3).
func restored(t *testing.T, x *core.Core) *core.Core {
	t.Helper()
	s := x.State()
	b := Save(x)
	if !bytes.Equal(b, bytesOf(s)) || !sameState(x.State(), s) {
		t.Fatalf("%s: %s", short(s), short(b))
	}
	y, e := Restore(b)
	if e != 0 || y == nil || !sameState(y.State(), s) || !bytes.Equal(Save(y), b) {
		t.Fatalf("%s: %d %v", short(s), e, y != nil)
	}
	return y
}

func TestErrorNumbers(t *testing.T) {
	if api.ErrSnapForm != 190 || api.ErrSnapState != 191 {
		t.Error(api.ErrSnapForm, api.ErrSnapState)
	}
}

func TestChapterExamples(t *testing.T) {
	b := Save(begun(t, example()))
	if p, e := Put(fresh(example())); e != 0 || len(p) != 149 || !bytes.Equal(p, b) {
		t.Error(e, p, b)
	}
	if p, e := Put(api.State{}); e != 191 || len(p) != 0 {
		t.Error(e, p)
	}
	refuses(t, nil, 190)
	refuses(t, []byte("backfill1"), 190)
	refuses(t, b[:148], 190)
	refuses(t, append(bytes.Clone(b), 0), 190)
	now := bytes.Clone(b)
	copy(now[73:], []byte{255, 255, 255, 255, 255, 255, 255, 255})
	refuses(t, now, 191)
}

func TestP191NewByteByByte(t *testing.T) {
	want := []byte{
		'b', 'a', 'c', 'k', 'f', 'i', 'l', 'l', '1',
		0, 0, 0, 0, 0, 0, 0, 3, // Nodes
		0, 0, 0, 0, 0, 0, 0, 5, // Queue
		0, 0, 0, 0, 0, 0x01, 0x22, 0x45, // Limit
		0, 0, 0, 0, 0, 0, 0x06, 0x07, // Age
		0, 0, 0, 0, 0, 0x08, 0x09, 0x0a, // Fair
		0, 0, 0, 0, 0, 0, 0x0b, 0x0c, // Size
		0, 0, 0, 0, 0, 0, 0x0d, 0x0e, // Period
		0, 0, 0, 0, 0, 0x0f, 0x10, 0x11, // Half
		0, 0, 0, 0, 0, 0, 0, 0, // Now
		255, 255, 255, 255, 255, 255, 255, 255, // Holder
		0, 0, 0, 0, 0, 0, 0, 1, // one account
		0, 0, 0, 0, 0, 0, 0, 4, // its name has 4 bytes
		'r', 'o', 'o', 't',
		255, 255, 255, 255, 255, 255, 255, 255, // Parent
		0, 0, 0, 0, 0, 0, 0, 1, // Shares
		0, 0, 0, 0, 0, 0, 0, 0, // not closed
		0, 0, 0, 0, 0, 0, 0, 0, // Usage
		0, 0, 0, 0, 0, 0, 0, 0, // no job
	}
	if b, e := Put(fresh(unlike())); e != 0 || !bytes.Equal(b, want) {
		t.Errorf("%d %v, not %v", e, b, want)
	}
	if b := Save(begun(t, unlike())); !bytes.Equal(b, want) {
		t.Errorf("%v, not %v", b, want)
	}
	if s, e := Get(want); e != 0 || !sameState(s, fresh(unlike())) {
		t.Error(e, s)
	}
}

// A state with an account that is closed, a job that was stopped, and one that holds.
func TestP191JobsByteByByte(t *testing.T) {
	s := fresh(unlike())
	s.Now, s.Holder = 0x0102030405, 1
	s.Accounts = append(s.Accounts, api.Account{Name: "b", Parent: 2, Shares: 0x0304, Closed: true, Usage: 0x0102*3*q - 1}, api.Account{Name: "a-", Parent: 0, Shares: 2})
	s.Jobs = []api.Job{
		// It ran for 0x0102 ticks.
		{Account: 1, Nodes: 3, Limit: 0x010302, Submit: 0x0102020201, State: 5, Start: 0x0102020303, End: 0x0102020405, Set: []int{0, 1, 2}},
		{Account: 2, Nodes: 2, Limit: 9, Submit: 0x0102030201, State: 1},
	}
	want := slices.Concat(
		bytesOf(fresh(unlike()))[:9+8*8],
		[]byte{0, 0, 0, 0x01, 0x02, 0x03, 0x04, 0x05}, // Now
		[]byte{0, 0, 0, 0, 0, 0, 0, 1},                // Holder
		[]byte{0, 0, 0, 0, 0, 0, 0, 3},                // three accounts
		bytesOf(fresh(unlike()))[97:141],              // the root
		[]byte{0, 0, 0, 0, 0, 0, 0, 1, 'b'},
		[]byte{0, 0, 0, 0, 0, 0, 0, 2},                         // Parent
		[]byte{0, 0, 0, 0, 0, 0, 0x03, 0x04},                   // Shares
		[]byte{0, 0, 0, 0, 0, 0, 0, 1},                         // closed
		[]byte{0, 0, 0x03, 0x05, 0xff, 0xff, 0xff, 0xff},       // Usage
		[]byte{0, 0, 0, 0, 0, 0, 0, 2, 'a', '-'},               //
		[]byte{0, 0, 0, 0, 0, 0, 0, 0, 0, 0, 0, 0, 0, 0, 0, 2}, // Parent, Shares
		make([]byte, 16),                                       // not closed, Usage
		[]byte{0, 0, 0, 0, 0, 0, 0, 2},                         // two jobs
		[]byte{0, 0, 0, 0, 0, 0, 0, 1},                         // Account
		[]byte{0, 0, 0, 0, 0, 0, 0, 3},                         // Nodes
		[]byte{0, 0, 0, 0, 0, 0x01, 0x03, 0x02},                // Limit
		[]byte{0, 0, 0, 0x01, 0x02, 0x02, 0x02, 0x01},          // Submit
		[]byte{0, 0, 0, 0, 0, 0, 0, 5},                         // State
		[]byte{0, 0, 0, 0x01, 0x02, 0x02, 0x03, 0x03},          // Start
		[]byte{0, 0, 0, 0x01, 0x02, 0x02, 0x04, 0x05},          // End
		[]byte{0, 0, 0, 0, 0, 0, 0, 3},                         // three nodes
		[]byte{0, 0, 0, 0, 0, 0, 0, 0, 0, 0, 0, 0, 0, 0, 0, 1, 0, 0, 0, 0, 0, 0, 0, 2},
		[]byte{0, 0, 0, 0, 0, 0, 0, 2, 0, 0, 0, 0, 0, 0, 0, 2, 0, 0, 0, 0, 0, 0, 0, 9}, // Account, Nodes, Limit
		[]byte{0, 0, 0, 0x01, 0x02, 0x03, 0x02, 0x01, 0, 0, 0, 0, 0, 0, 0, 1},          // Submit, State
		make([]byte, 24),                                                               // Start, End, no nodes
	)
	if b, e := Put(s); e != 0 || !bytes.Equal(b, want) {
		t.Errorf("%d %v, not %v", e, b, want)
	}
	if back, e := Get(want); e != 0 || !sameState(back, s) {
		t.Errorf("%d %+v, not %+v", e, back, s)
	}
}

func TestP191GreatestUsage(t *testing.T) {
	f := sheetOf(much())
	b := put(t, much())
	at := f.at["usage"][1]
	if !bytes.Equal(b[at:at+8], bytes.Repeat([]byte{255}, 8)) {
		t.Error(b[at : at+8])
	}
	if s, e := got(t, b); e != 0 || s.Accounts[1].Usage != math.MaxUint64 {
		t.Error(e, s.Accounts)
	}
}

func TestP191States(t *testing.T) {
	for _, s := range taken() {
		if back, e := got(t, put(t, s)); e != 0 || !sameState(back, s) {
			t.Errorf("%d %s, not %s", e, short(back), short(s))
		}
	}
	// Each State of a job for itself.
	all := states()
	for n, j := range all.Jobs {
		s := deepCopy(all)
		s.Jobs, s.Holder = []api.Job{j}, -1
		for n := range s.Accounts {
			s.Accounts[n].Usage = 0
		}
		if back, e := got(t, put(t, s)); e != 0 || !sameState(back, s) {
			t.Errorf("job %d: %d %s, not %s", n, e, short(back), short(s))
		}
	}
}

func TestP191Refuses(t *testing.T) {
	for _, one := range auditSpoils() {
		s := states()
		one.spoil(&s)
		if e := audit.Check(s); e != one.e {
			t.Fatal(e, one.e)
		}
	}
	for _, s := range refusedStates() {
		if b, e := Put(s); e != 191 || len(b) != 0 {
			t.Errorf("%s: %d %s", short(s), e, short(b))
		}
	}
}

func TestP192NoForm(t *testing.T) {
	b := bytesOf(states())
	for n := range 9 {
		refuses(t, []byte("backfill1")[:n], 190)
		refuses(t, make([]byte, n), 190)
		// Each of the nine bytes counts.
		other := bytes.Clone(b)
		other[n]++
		refuses(t, other, 190)
		refuses(t, other[:9], 190)
	}
	for _, first := range []string{"backfill2", "Backfill1", "backfill ", "\x00\x00\x00\x00\x00\x00\x00\x00\x00", "ackfill1", "bbackfill1", "backfill11"} {
		refuses(t, []byte(first), 190)
		refuses(t, append([]byte(first), b[9:]...), 190)
	}
	refuses(t, b[9:], 190)
}

func TestP192CutAndMore(t *testing.T) {
	for _, s := range []api.State{fresh(example()), fresh(unlike()), states(), {}, {Accounts: states().Accounts}, {Jobs: states().Jobs}} {
		b := bytesOf(s)
		// The spare room behind them has what is missing: it does not count.
		for cut := range b {
			refuses(t, b[:cut], 190)
		}
		for _, more := range [][]byte{{0}, {1}, {255}, make([]byte, 7), make([]byte, 8), make([]byte, 64), bytes.Repeat([]byte{255}, 8), b, b[9:], []byte("backfill1")} {
			refuses(t, slices.Concat(b, more), 190)
		}
	}
	for _, s := range []api.State{much(), full()} {
		b := bytesOf(s)
		for cut := 0; cut < len(b); cut += 1009 {
			refuses(t, b[:cut], 190)
			refuses(t, b[:len(b)-1-cut%64], 190)
		}
		refuses(t, append(bytes.Clone(b), 0), 190)
		refuses(t, append(bytes.Clone(b), make([]byte, 8)...), 190)
	}
}

func TestP192Closed(t *testing.T) {
	f := sheetOf(states())
	for n, at := range f.at["closed"] {
		for _, closed := range []uint64{2, 3, 255, 256, 257, 1 << 32, 1<<32 + 1, 1 << 56, 1<<56 + 1, 1 << 63, 1<<63 + 1, math.MaxInt64, math.MaxUint64, math.MaxUint64 - 1} {
			refuses(t, with(f.b, at, closed), 190)
		}
		s, e := got(t, with(f.b, at, 1))
		switch {
		case n == 0:
			// The root is never closed, but such a state has bytes.
			if e != 191 {
				t.Error(e)
			}
		case e != 0 || !s.Accounts[n].Closed:
			t.Error(n, e, s)
		}
		if s, e := got(t, with(f.b, at, 0)); e != 0 || s.Accounts[n].Closed {
			t.Error(n, e, s)
		}
	}
}

// counts are more than so many bytes can hold: negative ones, those that are hardly more, and those that come round to the right one when they are told in bytes.
func counts(was, left uint64) []uint64 {
	l := []uint64{math.MaxUint64, math.MaxUint64 - 1, 1 << 63, 1<<63 + 1, math.MaxInt64, math.MaxInt64 - 7, left + 1, left + 8, 1 << 31, 1<<31 + was, 1 << 32, 1<<32 + was, 1 << 40}
	for _, bytes := range []uint64{8, 40, 48, 64, 80} {
		l = append(l, math.MaxUint64/bytes, math.MaxUint64/bytes+1, math.MaxUint64/bytes+1+was)
	}
	for shift := 57; shift < 64; shift++ {
		l = append(l, 1<<shift, 1<<shift+was, 1<<shift+1)
	}
	return l
}

func TestP192Counts(t *testing.T) {
	for _, s := range []api.State{fresh(example()), states(), {}, {Accounts: make([]api.Account, 3), Jobs: make([]api.Job, 3)}} {
		f := sheetOf(s)
		for _, name := range []string{"accounts", "name", "jobs", "set"} {
			for _, at := range f.at[name] {
				was, left := binary.BigEndian.Uint64(f.b[at:]), uint64(len(f.b)-at-8)
				for _, n := range counts(was, left) {
					refuses(t, with(f.b, at, n), 190)
					// Also where nothing stands behind it.
					refuses(t, with(f.b, at, n)[:at+8], 190)
				}
				// One more or less than there are, and as many as just fit, or do not: what the form says of them.
				for _, bytes := range []uint64{1, 8, 40, 64} {
					for _, n := range []uint64{left / bytes, left/bytes + 1, left/bytes - 1, was + 1, was - 1, was + bytes, was + 8} {
						got(t, with(f.b, at, n))
					}
				}
			}
		}
	}
}

// A Set as great as its bytes can be: all that stands behind it.
func TestP192AllBehindIsASet(t *testing.T) {
	s := states()
	s.Jobs = []api.Job{{Account: 1, Nodes: 4, Limit: 1, State: 4, Start: 1, End: 2, Set: numbers(0, 4)}}
	s.Holder = -1
	for n := range s.Accounts {
		s.Accounts[n].Usage = 0
	}
	f := sheetOf(s)
	b := put(t, s)
	at := f.at["set"][0]
	if len(b) != at+8+4*8 {
		t.Fatal(len(b), at)
	}
	for many, want := range map[uint64]api.Errno{0: 190, 3: 190, 4: 0, 5: 190} {
		if _, e := got(t, with(b, at, many)); e != want {
			t.Error(many, e)
		}
	}
	refuses(t, with(append(bytes.Clone(b), 0, 0, 0, 0, 0, 0, 0, 4), at, 5), 191)
}

func TestP192AuditRefuses(t *testing.T) {
	for _, s := range refusedStates() {
		b := bytesOf(s)
		refuses(t, b, 191)
		// What is no form is told first.
		refuses(t, b[:len(b)-1], 190)
		refuses(t, append(bytes.Clone(b), 0), 190)
		refuses(t, append(bytes.Clone(b), make([]byte, 8)...), 190)
		refuses(t, append([]byte("backfill2"), b[9:]...), 190)
		for _, at := range sheetOf(s).at["closed"] {
			refuses(t, with(b, at, 2), 190)
		}
	}
}

// Each number of the head at its edges: the form is right, whatever audit says.
func TestP192Numbers(t *testing.T) {
	f := sheetOf(states())
	for _, name := range []string{"config", "now", "holder", "parent", "shares", "usage", "job", "node"} {
		for _, at := range f.at[name] {
			for _, n := range []uint64{0, 1, 2, 7, 255, 256, 1 << 40, 1<<40 + 1, math.MaxInt64, 1 << 63, math.MaxUint64} {
				if _, e := got(t, with(f.b, at, n)); e == 190 {
					t.Errorf("%s at %d: %d is %d", name, at, n, e)
				}
			}
		}
	}
}

// No state's bytes are the beginning of another's.
func TestP194NoneBegins(t *testing.T) {
	for n, a := range taken() {
		for m, b := range taken() {
			if x, y := put(t, a), put(t, b); n != m && bytes.HasPrefix(x, y) {
				t.Errorf("%s begin with %s", short(x), short(y))
			}
		}
	}
}

func TestP196BitsTurned(t *testing.T) {
	for i, s := range taken() {
		b, first, step := put(t, s), 0, 1
		if len(b) > 5000 {
			first, step = i, 12007
		}
		told := map[api.Errno]int{}
		for bit := first; bit < 8*len(b); bit += step {
			turned := bytes.Clone(b)
			turned[bit/8] ^= 1 << (bit % 8)
			other, e := got(t, turned)
			if e == 0 && sameState(other, s) {
				t.Fatalf("bit %d of %s: the same state", bit, short(b))
			}
			told[e]++
		}
		if step == 1 && (told[0] == 0 || told[190] == 0 || told[191] == 0) {
			t.Error(told)
		}
	}
}

func TestP193SaveAndRestore(t *testing.T) {
	lines := []string{
		"account a root 1", "submit a 3 5", "submit a 3 5", "submit a 1 5", "submit a 1 6", "tick 1", "queue", "tick 5", "complete 1", "account b a 7",
		"close b", "submit a 4 10", "cancel 4", "submit a 4 10", "tick 1", "cancel 3", "shares a 4096", "tick 100", "move b root", "tick 256",
	}
	x := begun(t, example())
	for _, line := range lines {
		restored(t, x)
		y := x.Clone()
		if a := x.Do(cmd(t, line)); a.Code != 0 {
			t.Fatal(line, a.Code)
		}
		restored(t, y)
	}
	for _, s := range taken() {
		y := restored(t, loaded(t, s))
		if !sameState(y.State(), s) {
			t.Errorf("%s, not %s", short(y.State()), short(s))
		}
	}
	// (The errors of Restore: see refuses.)
}

// What is done to one of the two is not seen at the other, nor in bytes that were told.
func TestP193RestoredGoesItsOwnWay(t *testing.T) {
	for _, line := range []string{"submit z 1 1", "cancel 7", "cancel 3", "complete 4", "tick 1", "tick 12", "account d a 7", "shares a 3", "move a root", "close z"} {
		x := loaded(t, states())
		b := Save(x)
		y, z := restored(t, x), restored(t, x)
		if a := y.Do(cmd(t, line)); a.Code != 0 {
			t.Fatal(line, a.Code)
		}
		if sameState(y.State(), states()) || !sameState(x.State(), states()) || !sameState(z.State(), states()) || !bytes.Equal(b, bytesOf(states())) {
			t.Error(line)
		}
	}
}

func TestP195ChapterScript(t *testing.T) {
	lines := []string{"queue", "nodes", "tick 5", "complete 1", "complete 1", "cancel 0", "cancel 9", "usage a", "usage root", "submit root 1 1", "submit a 5 1", "submit a 4 9", "job 3", "config", "tick 100", "queue"}
	x := begun(t, example(), "account a root 1", "submit a 3 5", "submit a 3 5", "submit a 1 5", "submit a 1 6", "tick 1")
	once := restored(t, x)
	for _, line := range lines {
		again := restored(t, x)
		a := x.Do(cmd(t, line))
		for _, y := range []*core.Core{once, again} {
			if b := y.Do(cmd(t, line)); !sameAnswer(a, b) || !sameState(x.State(), y.State()) {
				t.Errorf("%s: %+v, not %+v", line, b, a)
			}
		}
	}
}

func TestR3NoListAndAnEmptyOne(t *testing.T) {
	bare, empty := fresh(example()), fresh(example())
	bare.Jobs, empty.Jobs = nil, []api.Job{}
	if !bytes.Equal(put(t, bare), put(t, empty)) {
		t.Error("no jobs")
	}
	bare, empty = states(), states()
	bare.Jobs[8].Set, empty.Jobs[8].Set = nil, []int{}
	if !bytes.Equal(put(t, bare), put(t, empty)) {
		t.Error("no nodes")
	}
	if b, e := Put(api.State{Accounts: []api.Account{}, Jobs: []api.Job{}}); e != 191 || len(b) != 0 {
		t.Error(e, b)
	}
	refuses(t, []byte{}, 190)
}

// roomy has spare room behind each list, with something in it.
func roomy(s api.State) api.State {
	s.Accounts = append(slices.Clone(s.Accounts), account("spare", 0))[:len(s.Accounts)]
	s.Jobs = append(slices.Clone(s.Jobs), api.Job{Account: 5})[:len(s.Jobs)]
	for n, j := range s.Jobs {
		s.Jobs[n].Set = append(slices.Clone(j.Set), 77)[:len(j.Set)]
	}
	return s
}

func TestR4PutLeavesWhatIsHandedIn(t *testing.T) {
	for _, s := range append(taken(), refusedStates()...) {
		given := roomy(s)
		was, e := Put(given)
		if !sameState(given, s) || given.Accounts[:len(s.Accounts)+1][len(s.Accounts)].Name != "spare" || given.Jobs[:len(s.Jobs)+1][len(s.Jobs)].Account != 5 {
			t.Fatalf("%s has become %s", short(s), short(given))
		}
		for n, j := range given.Jobs {
			if j.Set[:len(j.Set)+1][len(j.Set)] != 77 {
				t.Fatalf("the room behind job %d's nodes is written into", n)
			}
		}
		spoilState(given)
		if e == 0 && !bytes.Equal(was, bytesOf(s)) {
			t.Fatal("bytes that were told have changed with the state")
		}
	}
}

// spoilState writes into all memory that a state has, and into the spare room behind its lists.
func spoilState(s api.State) {
	for _, j := range s.Jobs {
		spoilSet(j.Set)
	}
	for n := range s.Accounts[:cap(s.Accounts)] {
		s.Accounts[:cap(s.Accounts)][n] = api.Account{Name: "spoilt", Usage: 7, Closed: true}
	}
	for n := range s.Jobs[:cap(s.Jobs)] {
		s.Jobs[:cap(s.Jobs)][n] = api.Job{Account: -7, Set: []int{-7}}
	}
}

func spoilSet(l []int) {
	for i := range l[:cap(l)] {
		l[:cap(l)][i] = -7
	}
}

func spoilBytes(b []byte) {
	for i := range b[:cap(b)] {
		b[:cap(b)][i] = 0xa5
	}
}

func TestR4BytesAreTheCallers(t *testing.T) {
	for _, s := range taken() {
		x := loaded(t, s)
		want := bytesOf(s)
		kept, also := put(t, s), Save(x)
		for range 3 {
			spoilBytes(put(t, s))
			spoilBytes(Save(x))
		}
		if !bytes.Equal(kept, want) || !bytes.Equal(also, want) || !bytes.Equal(put(t, s), want) || !bytes.Equal(Save(x), want) {
			t.Fatalf("%s, %s, not %s", short(kept), short(also), short(want))
		}
	}
}

func TestR4GetAndRestoreKeepNothing(t *testing.T) {
	for _, s := range taken() {
		b := append(bytesOf(s), "spare"...)
		handed := b[:len(b)-5]
		told, e := Get(handed)
		x, f := Restore(handed)
		if e != 0 || f != 0 || !bytes.Equal(handed, bytesOf(s)) || string(b[len(b)-5:]) != "spare" {
			t.Fatalf("%d %d %s", e, f, short(b))
		}
		spoilBytes(b)
		if !sameState(told, s) || !sameState(x.State(), s) || !bytes.Equal(Save(x), bytesOf(s)) {
			t.Fatalf("%s, %s, not %s", short(told), short(x.State()), short(s))
		}
	}
	// Nor where they refuse.
	for _, s := range refusedStates() {
		b := append(bytesOf(s), "spare"...)
		was := bytes.Clone(b)
		for cut := range min(len(b), 700) {
			Get(b[:len(b)-cut])
			Restore(b[:len(b)-cut])
		}
		if !bytes.Equal(b, was) {
			t.Fatalf("%s has become %s", short(was), short(b))
		}
	}
}

func TestR4StatesAreTheCallers(t *testing.T) {
	for _, s := range taken() {
		b := put(t, s)
		kept, _ := Get(b)
		for range 3 {
			other, _ := Get(b)
			spoilState(other)
		}
		if again, e := Get(b); e != 0 || !sameState(kept, s) || !sameState(again, s) {
			t.Fatalf("%d %s, %s, not %s", e, short(kept), short(again), short(s))
		}
	}
}

// No two lists of one answer share memory, nor their spare room.
func TestR4NoTwoListsShare(t *testing.T) {
	for _, s := range []api.State{states(), much()} {
		told, _ := Get(put(t, s))
		for n := range told.Jobs {
			spoilSet(told.Jobs[n].Set)
			for m := n + 1; m < len(told.Jobs); m++ {
				if !slices.Equal(told.Jobs[m].Set, s.Jobs[m].Set) {
					t.Fatalf("job %d has %v behind a write into %d's", m, told.Jobs[m].Set, n)
				}
			}
		}
	}
}

// One answer (R5), whoever else asks at the same time.
func TestR5SideBySide(t *testing.T) {
	all := append(taken(), refusedStates()...)
	var wait sync.WaitGroup
	for range 4 {
		wait.Go(func() {
			for _, s := range all {
				b, e := Put(s)
				if e == 0 && !bytes.Equal(b, bytesOf(s)) || e != 0 && (e != 191 || b != nil) {
					t.Errorf("%s: %d %s", short(s), e, short(b))
				}
				if back, f := Get(bytesOf(s)); e != f || e == 0 && !sameState(back, s) {
					t.Errorf("%s: %d %s", short(s), f, short(back))
				}
			}
		})
	}
	wait.Wait()
}

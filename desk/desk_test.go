package desk

import (
	"bytes"
	"math"
	"slices"
	"strconv"
	"strings"
	"sync"
	"testing"

	"backfill/api"
	"backfill/audit"
	"backfill/core"
	"backfill/snap"
)

// The tests hold the package against the chapter's words, taken plainly (plain_test.go), and against texts that are written out, with errors as their numbers.

const q = uint64(1) << 32

// example is the config of DOC.md's examples: its Bound is 81.
func example() api.Config {
	return api.Config{Nodes: 4, Queue: 8, Limit: 10, Age: 1, Fair: 0, Size: 0, Period: 100, Half: 100}
}

// greatest has as many nodes, as long a queue and as long jobs as may be.
func greatest() api.Config {
	return api.Config{Nodes: 256, Queue: 128, Limit: 1 << 20, Age: 1, Fair: 0, Size: 1 << 20, Period: 100, Half: 100}
}

func account(name string, parent int) api.Account {
	return api.Account{Name: name, Parent: parent, Shares: 1}
}

func fresh(c api.Config) api.State {
	return api.State{Config: c, Accounts: []api.Account{account("root", -1)}, Holder: -1}
}

// numbers are first, first + 1 .., so many.
func numbers(first, many int) []int {
	l := make([]int, many)
	for i := range l {
		l[i] = first + i
	}
	return l
}

func longName() string { return strings.Repeat("Az09-_bC", 4) }

// states is one with jobs of each State and accounts that are closed; at the clock 20, a below z below the root; 7 holds.
func states() api.State {
	s := api.State{Config: example(), Now: 20, Holder: 7}
	s.Accounts = []api.Account{
		account("root", -1),
		{Name: "a", Parent: 2, Shares: 4096, Closed: true, Usage: 44 * q},
		{Name: "z", Parent: 0, Shares: 7, Usage: 18*q - 0x0102030405},
		{Name: longName(), Parent: 1, Shares: 1, Closed: true},
	}
	job := func(account, nodes, limit, submit, state, start, end int, set ...int) {
		s.Jobs = append(s.Jobs, api.Job{Account: account, Nodes: nodes, Limit: limit, Submit: submit, State: state, Start: start, End: end, Set: set})
	}
	job(1, 4, 10, 0, 4, 1, 11, 0, 1, 2, 3)
	job(2, 2, 10, 0, 3, 11, 20, 0, 3)
	job(2, 1, 5, 1, 5, 15, 15, 1)
	job(1, 1, 6, 15, 2, 16, 0, 1)
	job(2, 1, 1, 19, 2, 20, 0, 2)
	job(1, 4, 10, 19, 6, 0, 19)
	job(3, 1, 10, 19, 6, 0, 20)
	job(1, 4, 10, 19, 1, 0, 0)
	job(2, 2, 1, 20, 1, 0, 0)
	return s
}

// much has used as much as can be told: 2^32 node-ticks, and the greatest uint64.
func much() api.State {
	s := fresh(greatest())
	s.Accounts = append(s.Accounts, api.Account{Name: "a", Parent: 0, Shares: 1, Usage: math.MaxUint64})
	for n := range 16 {
		start := 1 + n<<20
		s.Jobs = append(s.Jobs, api.Job{Account: 1, Nodes: 256, Limit: 1 << 20, State: 4, Start: start, End: start + 1<<20, Set: numbers(0, 256)})
	}
	s.Now = 1 + 16<<20
	return s
}

// full has as many accounts and jobs as may be.
func full() api.State {
	s := fresh(example())
	for n := range 63 {
		s.Accounts = append(s.Accounts, account("n"+strconv.Itoa(n), 0))
	}
	for n := range 4096 {
		s.Jobs = append(s.Jobs, api.Job{Account: 1 + n%63, Nodes: 1 + n%4, Limit: 1 + n%10, State: 6})
	}
	return s
}

// late is at the clock's end, but for one tick.
func late() api.State {
	s := fresh(example())
	s.Accounts = append(s.Accounts, account("a", 0))
	s.Now = 1<<40 - 1
	return s
}

// taken are states that audit takes.
func taken() []api.State {
	return []api.State{fresh(example()), fresh(greatest()), states(), much(), full(), late()}
}

func begun(t *testing.T, c api.Config, lines ...string) *Desk {
	t.Helper()
	d, e := New(c)
	if e != 0 || d == nil {
		t.Fatal(c, e)
	}
	does(t, d, lines...)
	return d
}

// does tells a desk lines that are not refused.
func does(t *testing.T, d *Desk, lines ...string) {
	t.Helper()
	for _, line := range lines {
		if told := d.Line(line); told == "" || strings.HasPrefix(told, "error") {
			t.Fatalf("%q: %q", line, told)
		}
	}
}

func restored(t *testing.T, b []byte) *Desk {
	t.Helper()
	d, e := Restore(b)
	if e != 0 || d == nil {
		t.Fatal(short(b), e)
	}
	if len(d.Trace()) != 0 || !bytes.Equal(d.Save(), b) {
		t.Fatalf("%s: %s", short(b), short(d.Trace()))
	}
	return d
}

// tells holds what a desk tells of a line against lines that are written out.
func tells(t *testing.T, d *Desk, line string, want ...string) {
	t.Helper()
	text := ""
	for _, w := range want {
		text += w + "\n"
	}
	if told := d.Line(line); told != text {
		t.Errorf("%q: %q, not %q", line, told, text)
	}
}

func TestChapterExamples(t *testing.T) {
	d := begun(t, example())
	tells(t, d, "account a root 1", "account 1")
	tells(t, d, "submit a 2 5", "job 0", "submit 0 0 2 5")
	tells(t, d, "nodes", "free 4")
	tells(t, d, "tick 1", "ok", "tick 1", "pass 1 0", "start 0 1 0 1")
	tells(t, d, "job 0", "job 1 2 5 0 running 1 0 0 1")
	tells(t, d, "queue", "holder -1 0")
	tells(t, d, "usage a", "usage 0 0 9223372036854775808")
	tells(t, d, "complete 0", "ok", "end 0 1 completed")
	tells(t, d, "complete 0", "error 183")
	tells(t, d, "# x")
	tells(t, d, "")
	tells(t, d, "tick", "error 82")
	tells(t, d, "tock 1", "error 81")
	if told := d.Run(strings.Repeat("nodes\n", 301)); told != "error 80\n" {
		t.Errorf("%q", told)
	}
	want := []api.Event{
		{Kind: 1, Nodes: 2, Limit: 5},
		{Kind: 6, At: 1},
		{Kind: 5, At: 1, List: []int{0}},
		{Kind: 2, At: 1, List: []int{0, 1}},
		{Kind: 3, At: 1, Nodes: 3},
	}
	if l := d.Trace(); !sameEvents(l, want) {
		t.Errorf("%+v, not %+v", l, want)
	}
}

// The ten examples of the whole, as far as lines tell them.
func TestExamplesOfTheWhole(t *testing.T) {
	for n, x := range []struct {
		change    func(c *api.Config)
		text, end string
	}{
		{nil, "submit a 2 5\ntick 1\ntick 5", "start 0 1 0 1\nok\ntick 2\ntick 3\ntick 4\ntick 5\ntick 6\nend 0 6 killed\n"},
		{nil, "submit a 3 5\nsubmit a 3 5\nsubmit a 1 5\nsubmit a 1 6\ntick 1\nqueue\ntick 1\ntick 4", "start 0 1 0 1 2\nstart 2 1 3\npin 1 1\nholder 1 6\n1 1\n3 1\nok\ntick 2\npass 2 1 3\nok\ntick 3\npass 3 1 3\ntick 4\npass 4 1 3\ntick 5\npass 5 1 3\ntick 6\nend 0 6 killed\nend 2 6 killed\npass 6 1 3\nstart 1 6 0 1 2\nstart 3 6 3\n"},
		{nil, "submit a 3 5\nsubmit a 3 5\nsubmit a 1 9\ntick 1", "pass 1 0 1 2\nstart 0 1 0 1 2\nstart 2 1 3\npin 1 1\n"},
		{nil, "submit a 4 5\nsubmit a 4 5\ntick 1\ncomplete 0\nnodes\ntick 1", "end 0 1 completed\nfree 4\nok\ntick 2\npass 2 1\nstart 1 2 0 1 2 3\n"},
		{nil, "submit a 4 5\nsubmit a 4 5\nsubmit a 4 5\ntick 1\ncancel 1\nqueue\ntick 1", "pin 1 1\nok\nend 1 1 dropped\nholder -1 0\n2 1\nok\ntick 2\npass 2 2\npin 2 2\n"},
		{nil, "submit a 4 5\ntick 6\ncomplete 0", "tick 6\nend 0 6 killed\nerror 183\n"},
		{func(c *api.Config) { c.Queue = 1 }, "submit a 1 1\nsubmit a 1 1\ntick 1\nsubmit a 1 1", "submit 0 0 1 1\nerror 187\nok\ntick 1\npass 1 0\nstart 0 1 0\njob 1\nsubmit 1 1 1 1\n"},
		{nil, strings.Repeat("submit a 4 10\n", 8) + "tick 71", "tick 71\nend 6 71 killed\npass 71 7\nstart 7 71 0 1 2 3\n"},
		{func(c *api.Config) { c.Fair = 1000 }, "account b root 1\nshares a 3\nsubmit a 4 2\nsubmit b 4 2\ntick 5\nsubmit b 4 2\nsubmit a 4 2\ntick 1", "pass 6 3 2\nstart 3 6 0 1 2 3\npin 2 6\n"},
	} {
		c := example()
		if x.change != nil {
			x.change(&c)
		}
		d := begun(t, c, "account a root 1")
		if told := d.Run(x.text); !strings.HasSuffix(told, x.end) {
			t.Errorf("example %d: %q, not at its end %q", n+1, told, x.end)
		}
	}
	d := restored(t, bytesOf(late()))
	tells(t, d, "tick 2", "error 180")
	tells(t, d, "tick 1", "ok", "tick 1099511627776")
	tells(t, d, "tick 1", "error 180")
}

func TestP201NewRefuses(t *testing.T) {
	with := func(change func(c *api.Config)) api.Config {
		c := example()
		change(&c)
		return c
	}
	// (112 can't be: no config within the ranges has it.)
	for _, x := range []struct {
		c    api.Config
		want api.Errno
	}{
		{api.Config{}, 110},
		{with(func(c *api.Config) { c.Nodes = 0 }), 110},
		{with(func(c *api.Config) { c.Nodes = 257 }), 110},
		{with(func(c *api.Config) { c.Queue = 129 }), 110},
		{with(func(c *api.Config) { c.Limit = 1<<20 + 1 }), 110},
		{with(func(c *api.Config) { c.Age = 0 }), 110},
		{with(func(c *api.Config) { c.Fair = -1 }), 110},
		{with(func(c *api.Config) { c.Size = math.MaxInt }), 110},
		{with(func(c *api.Config) { c.Period = math.MinInt }), 110},
		{with(func(c *api.Config) { c.Half = 1<<30 + 1 }), 110},
		{with(func(c *api.Config) { c.Period, c.Half = 1, 1<<30 }), 111},
		{with(func(c *api.Config) { c.Fair = 1 }), 113},
	} {
		if d, e := New(x.c); e != x.want || d != nil {
			t.Errorf("%+v: %d %v, not %d", x.c, e, d != nil, x.want)
		}
	}
}

func TestP201New(t *testing.T) {
	for _, c := range []api.Config{example(), greatest()} {
		d, e := New(c)
		if e != 0 || len(d.Trace()) != 0 || !sameState(d.State(), fresh(c)) || !bytes.Equal(d.Save(), bytesOf(fresh(c))) {
			t.Errorf("%+v: %d %s", c, e, short(d))
		}
	}
}

// spoils make states that audit refuses, by its errors.
func spoils() map[api.Errno]func(s *api.State) {
	return map[api.Errno]func(s *api.State){
		170: func(s *api.State) { s.Config.Age = 0 },
		171: func(s *api.State) { s.Now = -1 },
		172: func(s *api.State) { s.Accounts[1].Name = "z" },
		173: func(s *api.State) { s.Accounts[1].Usage++ },
		174: func(s *api.State) { s.Jobs[3].Start = 14 },
		175: func(s *api.State) { s.Config.Queue = 1 },
		176: func(s *api.State) { s.Jobs[4].Set = []int{1} },
		177: func(s *api.State) { s.Holder = 8 },
	}
}

func refusesBytes(t *testing.T, b []byte, want api.Errno) {
	t.Helper()
	if d, e := Restore(b); e != want || d != nil {
		t.Errorf("%s: %d %v, not %d", short(b), e, d != nil, want)
	}
}

func TestP201RestoreRefuses(t *testing.T) {
	b := bytesOf(states())
	refusesBytes(t, nil, 190)
	refusesBytes(t, []byte{}, 190)
	refusesBytes(t, []byte("x"), 190)
	refusesBytes(t, []byte("backfill1"), 190)
	refusesBytes(t, append([]byte("backfill2"), b[9:]...), 190)
	refusesBytes(t, append(bytes.Clone(b), 0), 190)
	refusesBytes(t, append(bytes.Clone(b), 10), 190)
	for cut := range b {
		refusesBytes(t, b[:cut], 190)
	}
	refusesBytes(t, bytesOf(api.State{}), 191)
	for e, spoil := range spoils() {
		s := states()
		spoil(&s)
		if audit.Check(s) != e {
			t.Fatal(audit.Check(s), e)
		}
		refusesBytes(t, bytesOf(s), 191)
	}
}

func TestP201Restore(t *testing.T) {
	for _, s := range taken() {
		d := restored(t, bytesOf(s))
		if !sameState(d.State(), s) {
			t.Errorf("%s, not %s", short(d.State()), short(s))
		}
	}
}

// idle lines are answered with nothing, and do nothing.
func TestP202Idle(t *testing.T) {
	for _, s := range []api.State{fresh(example()), states()} {
		d, p := restored(t, bytesOf(s)), plainOf(t, s)
		for _, line := range []string{
			"", " ", "  ", strings.Repeat(" ", 256), strings.Repeat(" ", 257), strings.Repeat(" ", 30000),
			"#", " #", "   #", "##", "# ", "#tick 1", "# tick 1", "  # tick 1", "#\ttick 1", "#\n", "#\ntick 1", " #\x00\xff", "# \r",
			"#" + strings.Repeat("x", 255), "#" + strings.Repeat("x", 256), strings.Repeat(" ", 300) + "#" + strings.Repeat("x", 30000),
		} {
			if told := agrees(t, d, p, line); told != "" {
				t.Errorf("%q: %q", line, told)
			}
		}
		if len(d.Trace()) != 0 || !sameState(d.State(), s) {
			t.Error(short(d))
		}
	}
}

// Neither a remark behind a word, nor other blanks than byte 32, nor a LF that is handed to Line, are anything but wrong.
func TestP202NotIdle(t *testing.T) {
	d, p := begun(t, example()), plainNew(t, example())
	for line, want := range map[string]string{
		"tick 1 #": "error 82\n", "tick 1 # x": "error 82\n", "tick #": "error 83\n", "tick 1#": "error 83\n", "tick#": "error 81\n",
		"queue #": "error 82\n", "queue#": "error 81\n", "x #": "error 81\n", "\\#": "error 81\n", "/#": "error 81\n", "\"#": "error 81\n",
		"\t": "error 81\n", "\r": "error 81\n", "\n": "error 81\n", "\v": "error 81\n", "\f": "error 81\n", "\x00": "error 81\n", "\u00a0": "error 81\n", "\u0085": "error 81\n", "\u2003": "error 81\n",
		" \t": "error 81\n", "\t ": "error 81\n", " \n": "error 81\n", "\t#": "error 81\n", " \t #": "error 81\n", "\r#": "error 81\n", "\n#": "error 81\n", "\ufeff#": "error 81\n", "\xff#": "error 81\n",
		"tick 1\n": "error 83\n", "tick 1\r": "error 83\n", "tick\t1": "error 81\n", "tick 1\ntick 1": "error 82\n", "queue\n": "error 81\n", "queue\r": "error 81\n",
		" tick 1": "error 81\n", "  queue": "error 81\n", "tick 1 ": "error 82\n", "tick  1": "error 82\n", "queue ": "error 82\n",
		"；": "error 81\n", "!": "error 81\n", "$": "error 81\n", "\"": "error 81\n",
	} {
		if told := agrees(t, d, p, line); told != want {
			t.Errorf("%q: %q, not %q", line, told, want)
		}
	}
	if len(d.Trace()) != 0 || !sameState(d.State(), fresh(example())) {
		t.Error(short(d))
	}
}

// Each byte alone, ahead of a remark, and ahead of a command: the blank and `#` are the only ones that are not wrong.
func TestP202EachByte(t *testing.T) {
	d, p := begun(t, example()), plainNew(t, example())
	for b := range 256 {
		one := string([]byte{byte(b)})
		for _, line := range []string{one, one + "#", one + " ", " " + one, one + "tick 1", "tick" + one + "1", "tick 1" + one, one + one} {
			agrees(t, d, p, line)
		}
		want := "error 81\n"
		if b == ' ' || b == '#' {
			want = ""
		}
		tells(t, d, one, plainLines(want)...)
		tells(t, d, one+"#", plainLines(want)...)
	}
}

func TestP202ParseRefuses(t *testing.T) {
	s := states()
	d, p := restored(t, bytesOf(s)), plainOf(t, s)
	for want, lines := range map[string][]string{
		"error 80\n": {strings.Repeat("x", 257), "tick 1" + strings.Repeat(" ", 251), "usage " + strings.Repeat("a", 251), "queue" + strings.Repeat(" ", 30000), strings.Repeat(" ", 250) + "tick 1 ", strings.Repeat("ä", 129)},
		"error 81\n": {"x", "Tick 1", "TICK 1", "tock 1", "error 80", "ok", "help", "submits a 1 1", strings.Repeat("x", 256), strings.Repeat(" ", 250) + "tick 1", strings.Repeat("ä", 128)},
		"error 82\n": {"tick", "tick 1 2", "submit", "submit a", "submit a 1", "submit a 1 1 1", "cancel", "complete", "account a root", "shares a", "move a", "close", "job", "queue 1", "usage", "nodes 1", "config 1", "tick 1" + strings.Repeat(" ", 250)},
		"error 83\n": {"tick ", "tick -1", "tick +1", "tick 01", "tick 1.0", "tick x", "tick 9223372036854775808", "submit  1 1", "submit a.b 1 1", "submit a x 1", "submit a 1 x", "cancel -1", "complete x", "account ä root 1", "account a  1", "shares a -1", "move a b.c", "close " + strings.Repeat("x", 33), "job 00", "usage ", "usage " + strings.Repeat("a", 250)},
	} {
		for _, line := range lines {
			if told := agrees(t, d, p, line); told != want {
				t.Errorf("%q: %q, not %q", line, told, want)
			}
		}
	}
	if len(d.Trace()) != 0 || !sameState(d.State(), s) {
		t.Error(short(d))
	}
}

// The longest line that is a command, and one byte more in each of its fields; lines of 256 and of 257 bytes.
func TestP202Longest(t *testing.T) {
	d, p := begun(t, example()), plainNew(t, example())
	a, b := longName(), strings.Repeat("x", 32)
	for _, x := range []struct{ line, want string }{
		{"account " + a + " root 4096", "account 1\n"},
		{"account " + b + " " + a + " 4096", "account 2\n"},
		{"account " + strings.Repeat("y", 32) + " " + a + " 9223372036854775807", "error 63\n"},
		{"account " + strings.Repeat("y", 32) + " " + a + " 92233720368547758070", "error 83\n"},
		{"account " + strings.Repeat("y", 33) + " " + a + " 1", "error 83\n"},
		{"account y " + a + "x 1", "error 83\n"},
		{"tick " + strings.Repeat("1", 251), "error 83\n"},
		{"tick " + strings.Repeat("1", 252), "error 80\n"},
		{"submit a 1 " + strings.Repeat(" ", 245), "error 82\n"},
		{"submit a 1 " + strings.Repeat(" ", 246), "error 80\n"},
		{strings.Repeat("q", 256), "error 81\n"},
		{strings.Repeat("q", 257), "error 80\n"},
	} {
		if told := agrees(t, d, p, x.line); told != x.want {
			t.Errorf("%q: %q, not %q", x.line, told, x.want)
		}
	}
}

// Each kind of command, answered and refused: as it is written out, and as a core tells it that is asked the same.
func TestP202EachKind(t *testing.T) {
	d, p := restored(t, bytesOf(states())), plainOf(t, states())
	for _, x := range []struct{ line, want string }{
		{"submit z 2 3", "job 9\nsubmit 9 20 2 3\n"},
		{"submit root 1 1", "error 181\n"}, {"submit nobody 1 1", "error 181\n"}, {"submit a 1 1", "error 184\n"}, {"submit " + longName() + " 9 99", "error 184\n"},
		{"submit z 0 1", "error 185\n"}, {"submit z 5 0", "error 185\n"}, {"submit z 4 0", "error 186\n"}, {"submit z 4 11", "error 186\n"},
		{"cancel 9", "ok\nend 9 20 dropped\n"}, {"cancel 9", "error 183\n"}, {"cancel 10", "error 182\n"},
		{"cancel 4", "ok\nend 4 20 stopped\n"}, {"complete 4", "error 183\n"},
		{"complete 8", "error 183\n"}, {"complete 9223372036854775807", "error 182\n"},
		{"account b z 9", "account 4\n"}, {"account b z 9", "error 61\n"}, {"account c nobody 1", "error 62\n"}, {"account c z 0", "error 63\n"}, {"account c z 4097", "error 63\n"},
		{"shares b 4096", "ok\n"}, {"shares b 0", "error 63\n"}, {"shares root 1", "error 66\n"}, {"shares nobody 1", "error 62\n"},
		{"move b a", "ok\n"}, {"move z a", "error 67\n"}, {"move root a", "error 66\n"}, {"move b nobody", "error 62\n"},
		{"close b", "ok\n"}, {"close root", "error 66\n"}, {"close nobody", "error 62\n"},
		{"job 0", "job 1 4 10 0 killed 1 11 0 1 2 3\n"}, {"job 1", "job 2 2 10 0 completed 11 20 0 3\n"}, {"job 2", "job 2 1 5 1 stopped 15 15 1\n"},
		{"job 3", "job 1 1 6 15 running 16 0 1\n"}, {"job 5", "job 1 4 10 19 dropped 0 19\n"}, {"job 7", "job 1 4 10 19 pending 0 0\n"}, {"job 10", "error 182\n"},
		{"queue", "holder 7 22\n7 1\n8 0\n"},
		{"usage a", "usage 44 188978561024 8298289207949422641\n"}, {"usage nobody", "error 181\n"},
		{"nodes", "free 3\n"},
		{"config", "config 4 8 10 1 0 0 100 100 81\n"},
		{"complete 3", "ok\nend 3 20 completed\n"}, {"queue", "holder 7 0\n7 1\n8 0\n"},
		{"tick 1", "ok\ntick 21\npass 21 7 8\nstart 7 21 0 1 2 3\npin 8 21\n"},
		{"tick 10", "ok\ntick 22\npass 22 8\ntick 23\npass 23 8\ntick 24\npass 24 8\ntick 25\npass 25 8\ntick 26\npass 26 8\ntick 27\npass 27 8\ntick 28\npass 28 8\ntick 29\npass 29 8\ntick 30\npass 30 8\ntick 31\nend 7 31 killed\npass 31 8\nstart 8 31 0 1\n"},
		{"tick 0", "error 189\n"}, {"tick 257", "error 189\n"}, {"cancel 7", "error 183\n"},
		{"tick 69", ""},
	} {
		told := agrees(t, d, p, x.line)
		if x.want == "" {
			if !strings.HasSuffix(told, "tick 100\ndecay 100\n") {
				t.Errorf("%q: %q", x.line, told)
			}
		} else if told != x.want {
			t.Errorf("%q: %q, not %q", x.line, told, x.want)
		}
	}
}

// Errors that need the queue, the records or the tree to be full, or the clock's end.
func TestP202RefusedAtTheEdges(t *testing.T) {
	d, p := restored(t, bytesOf(full())), plainOf(t, full())
	for _, x := range []struct{ line, want string }{
		{"submit n1 1 1", "error 188\n"}, {"account more n1 1", "error 65\n"}, {"job 4095", "job 1 4 6 0 dropped 0 0\n"}, {"job 4096", "error 182\n"},
		{"move n2 n1", "ok\n"}, {"move n3 n2", "ok\n"}, {"move n4 n3", "ok\n"}, {"move n5 n4", "error 64\n"},
	} {
		if told := agrees(t, d, p, x.line); told != x.want {
			t.Errorf("%q: %q, not %q", x.line, told, x.want)
		}
	}
	d, p = restored(t, bytesOf(late())), plainOf(t, late())
	for _, x := range []struct{ line, want string }{
		{"submit a 1 1", "error 180\n"}, {"tick 2", "error 180\n"}, {"tick 257", "error 189\n"}, {"tick 1", "ok\ntick 1099511627776\n"}, {"tick 1", "error 180\n"},
	} {
		if told := agrees(t, d, p, x.line); told != x.want {
			t.Errorf("%q: %q, not %q", x.line, told, x.want)
		}
	}
	d, p = restored(t, bytesOf(much())), plainOf(t, much())
	agrees(t, d, p, "usage a")
	agrees(t, d, p, "submit a 256 1048576")
	for range 3 {
		agrees(t, d, p, "tick 256")
	}
	agrees(t, d, p, "job 16")
	agrees(t, d, p, "usage root")
}

// runs asks a desk and the chapter's words for a text, each from the same beginning.
func runs(t *testing.T, s api.State, text string) string {
	t.Helper()
	d, p := restored(t, bytesOf(s)), plainOf(t, s)
	told, want := d.Run(text), p.run(text)
	if told != want {
		t.Fatalf("%q: %q, not %q", text, told, want)
	}
	alike(t, d, p)
	// So many Lines tell the same.
	if len(text) <= 20000 && len(plainLines(text)) <= 300 {
		each, all := restored(t, bytesOf(s)), ""
		for _, line := range plainLines(text) {
			all += each.Line(line)
		}
		if all != told || !bytes.Equal(each.Save(), d.Save()) || !sameEvents(each.Trace(), d.Trace()) {
			t.Fatalf("%q: %q, but by lines %q", text, told, all)
		}
	}
	return told
}

func TestP203Texts(t *testing.T) {
	s := fresh(example())
	for _, x := range []struct{ text, want string }{
		{"", ""}, {"\n", ""}, {"\n\n\n", ""}, {" ", ""}, {" \n ", ""}, {"#", ""}, {"#\n#", ""}, {"# nodes\n", ""},
		{"nodes", "free 4\n"}, {"nodes\n", "free 4\n"}, {"\nnodes", "free 4\n"}, {"\n\nnodes\n\n", "free 4\n"},
		{"nodes\nnodes", "free 4\nfree 4\n"}, {"nodes\nnodes\n", "free 4\nfree 4\n"}, {"nodes\n\nnodes", "free 4\nfree 4\n"},
		{"# a remark\n\naccount a root 1\n   \n   # another one\nsubmit a 1 1\n#\ntick 1", "account 1\njob 0\nsubmit 0 0 1 1\nok\ntick 1\npass 1 0\nstart 0 1 0\n"},
		{"tick 1\ntick 2\ntick 3\n", "ok\ntick 1\nok\ntick 2\ntick 3\nok\ntick 4\ntick 5\ntick 6\n"},
		// A line that is answered with an error does not end it.
		{"account a root 1\ntock\nsubmit a 9 9\ntick\ntick x\ncancel 0\nsubmit a 1 1", "account 1\nerror 81\nerror 185\nerror 82\nerror 83\nerror 182\njob 0\nsubmit 0 0 1 1\n"},
		{strings.Repeat("x", 257) + "\nnodes", "error 80\nfree 4\n"},
		{"error 80\nnodes", "error 81\nfree 4\n"},
		// No other ends of lines.
		{"nodes\r\nnodes", "error 81\nfree 4\n"}, {"nodes\rnodes", "error 81\n"}, {"nodes\vnodes", "error 81\n"}, {"nodes\u2028nodes", "error 81\n"}, {"nodes\u0085nodes", "error 81\n"}, {"nodes\x00nodes", "error 81\n"},
		{"\r\n", "error 81\n"}, {"nodes\n\r", "free 4\nerror 81\n"}, {"nodes;nodes", "error 81\n"},
		{"nodes \nnodes", "error 82\nfree 4\n"}, {" nodes\nnodes", "error 81\nfree 4\n"},
	} {
		if told := runs(t, s, x.text); told != x.want {
			t.Errorf("%q: %q, not %q", x.text, told, x.want)
		}
	}
}

// tooLong holds a text that is refused against nothing being done.
func tooLong(t *testing.T, text string) {
	t.Helper()
	for _, s := range []api.State{fresh(example()), states()} {
		if told := runs(t, s, text); told != "error 80\n" {
			t.Errorf("%d bytes, %d lines: %q", len(text), len(plainLines(text)), short(told))
		}
		d := restored(t, bytesOf(s))
		d.Run(text)
		if !sameState(d.State(), s) || !bytes.Equal(d.Save(), bytesOf(s)) || len(d.Trace()) != 0 {
			t.Errorf("%d bytes, %d lines: %s", len(text), len(plainLines(text)), short(d.State()))
		}
	}
}

func TestP203Bytes(t *testing.T) {
	s := fresh(example())
	// Grown in a remark or in blanks, so that it has few lines.
	for _, sign := range []string{"#", " "} {
		grown := strings.Repeat(sign, 19993)
		for _, text := range []string{"tick 1\n" + grown, grown + "\ntick 1", grown[1:] + "\ntick 1\n"} {
			if len(text) != 20000 {
				t.Fatal(len(text))
			}
			if told := runs(t, s, text); told != "ok\ntick 1\n" {
				t.Errorf("%q: %q", short(text), told)
			}
			tooLong(t, text+sign)
			tooLong(t, sign+text)
			tooLong(t, text+"\n")
			tooLong(t, "\n"+text)
		}
	}
	// Bytes are counted, not signs.
	if told := runs(t, s, "tick 1\n#"+strings.Repeat("ä", 9996)); told != "ok\ntick 1\n" {
		t.Errorf("%q", told)
	}
	tooLong(t, "tick 1\n#ä"+strings.Repeat("ä", 9996))
	tooLong(t, "tick 1\n#"+strings.Repeat("\xff", 19993))
	tooLong(t, strings.Repeat(" ", 20001))
	tooLong(t, strings.Repeat("#", 20001))
	tooLong(t, strings.Repeat("x", 20001))
	tooLong(t, strings.Repeat("\n", 20001))
	tooLong(t, "tick 1\n"+strings.Repeat("x", 1<<20))
}

func TestP203Lines(t *testing.T) {
	s := fresh(example())
	ticks := func(many int) string {
		text := ""
		for n := range many {
			text += "ok\ntick " + strconv.Itoa(n+1) + "\n"
			if (n+1)%100 == 0 {
				text += "decay " + strconv.Itoa(n+1) + "\n"
			}
		}
		return text
	}
	for _, x := range []struct{ text, want string }{
		{strings.Repeat("tick 1\n", 300), ticks(300)},
		{strings.Repeat("tick 1\n", 299) + "tick 1", ticks(300)},
		{strings.Repeat("tick 1\n", 299), ticks(299)},
		{strings.Repeat("\n", 300), ""},
		{strings.Repeat("\n", 299) + "tick 1", ticks(1)},
		{strings.Repeat("\n", 299) + "tick 1\n", ticks(1)},
		{"tick 1" + strings.Repeat("\n", 300), ticks(1)},
		{strings.Repeat("#\n", 299) + "#", ""},
		{strings.Repeat(" \n", 299) + " ", ""},
		{strings.Repeat("x\n", 300), strings.Repeat("error 81\n", 300)},
	} {
		if told := runs(t, s, x.text); told != x.want {
			t.Errorf("%q: %q, not %q", short(x.text), short(told), short(x.want))
		}
	}
	tooLong(t, strings.Repeat("tick 1\n", 301))
	tooLong(t, strings.Repeat("tick 1\n", 300)+"tick 1")
	tooLong(t, strings.Repeat("tick 1\n", 300)+" ")
	tooLong(t, strings.Repeat("tick 1\n", 300)+"#")
	tooLong(t, strings.Repeat("tick 1\n", 300)+"\n")
	tooLong(t, strings.Repeat("\n", 301))
	tooLong(t, strings.Repeat("\n", 300)+"tick 1")
	tooLong(t, strings.Repeat("\n", 300)+" ")
	tooLong(t, "tick 1"+strings.Repeat("\n", 301))
	tooLong(t, strings.Repeat("#\n", 301))
	tooLong(t, strings.Repeat("x\n", 301))
	tooLong(t, strings.Repeat("\n", 20000))
	tooLong(t, strings.Repeat("\n", 20001))
}

// A text that was refused leaves a trace as it was.
func TestP203RefusedLeavesTheTrace(t *testing.T) {
	d := begun(t, example(), "account a root 1", "submit a 1 1", "tick 1")
	was, b := d.Trace(), d.Save()
	if told := d.Run(strings.Repeat("tick 1\n", 301)); told != "error 80\n" || !sameEvents(d.Trace(), was) || !bytes.Equal(d.Save(), b) {
		t.Errorf("%q %+v", told, d.Trace())
	}
}

// Run and Line may be told one behind the other.
func TestP203RunsAndLines(t *testing.T) {
	d, p := begun(t, example()), plainNew(t, example())
	for n, text := range []string{"account a root 1\nsubmit a 3 5", "submit a 3 5", "tick 1\nqueue\n", "complete 0", "\n", "tick 4", "tick 1\ntick 1\n# x"} {
		if n%2 == 0 {
			if told, want := d.Run(text), p.run(text); told != want {
				t.Errorf("%q: %q, not %q", text, told, want)
			}
			alike(t, d, p)
		} else {
			agrees(t, d, p, text)
		}
	}
}

func TestP205SaveAndState(t *testing.T) {
	d := begun(t, example())
	x, e := core.New(example())
	if e != 0 {
		t.Fatal(e)
	}
	p := &plain{t: t, x: x}
	for _, line := range []string{"account a root 1", "submit a 3 5", "submit a 3 5", "submit a 1 5", "tick 1", "queue", "tick 5", "complete 1", "account b a 7", "close b", "cancel 1", "shares a 4096", "tick 100", "move b root", "tick 256"} {
		agrees(t, d, p, line)
		if b, e := snap.Put(d.State()); e != 0 || !bytes.Equal(b, d.Save()) || !bytes.Equal(b, bytesOf(x.State())) {
			t.Errorf("%q: %d %s", line, e, short(b))
		}
	}
}

func TestP205CloneGoesItsOwnWay(t *testing.T) {
	lines := []string{"submit z 1 1", "cancel 7", "cancel 3", "complete 3", "tick 1", "tick 12", "account d a 7", "shares a 3", "move a root", "close z"}
	for _, line := range lines {
		for _, first := range []bool{true, false} {
			d := restored(t, bytesOf(states()))
			does(t, d, "tick 1")
			was, b, s := d.Trace(), d.Save(), d.State()
			c := d.Clone()
			if !sameEvents(c.Trace(), was) || !bytes.Equal(c.Save(), b) || !sameState(c.State(), s) {
				t.Fatal(short(c.State()))
			}
			if first {
				c, d = d, c
			}
			does(t, d.Clone(), line)
			if !sameEvents(d.Trace(), was) || !bytes.Equal(d.Save(), b) {
				t.Errorf("%q of a clone is seen", line)
			}
			// What the other one did is not seen, and both tell the same when they do the same.
			told := c.Line(line)
			if bytes.Equal(c.Save(), b) || !sameEvents(d.Trace(), was) || !bytes.Equal(d.Save(), b) || !sameState(d.State(), s) {
				t.Errorf("%q: %q", line, told)
			}
			if again := d.Line(line); again != told || !bytes.Equal(d.Save(), c.Save()) || !sameEvents(d.Trace(), c.Trace()) {
				t.Errorf("%q: %q, not %q", line, again, told)
			}
		}
	}
}

// Two that go on by unlike events do not write into one another's traces, however much room there is behind them.
func TestP205ClonesTraces(t *testing.T) {
	for many := range 40 {
		d := begun(t, example(), "account a root 1")
		for range many {
			does(t, d, "tick 1")
		}
		c := d.Clone()
		e := c.Clone()
		does(t, d, "submit a 1 1")
		does(t, c, "tick 1")
		does(t, e, "submit a 2 2", "tick 1")
		ds, cs, es := d.Trace(), c.Trace(), e.Trace()
		want := api.Event{Kind: 1, At: many, Nodes: 1, Limit: 1}
		if len(ds) != many+1 || !sameEvents(ds[many:], []api.Event{want}) {
			t.Fatalf("%+v", ds)
		}
		if len(cs) != many+1 || !sameEvents(cs[many:], []api.Event{{Kind: 6, At: many + 1}}) {
			t.Fatalf("%+v", cs)
		}
		want.Nodes, want.Limit = 2, 2
		if len(es) != many+4 || !sameEvents(es[many:many+2], []api.Event{want, {Kind: 6, At: many + 1}}) {
			t.Fatalf("%+v", es)
		}
	}
}

func TestP205CloneOfNew(t *testing.T) {
	d := begun(t, example())
	c := d.Clone()
	does(t, c, "account a root 1", "submit a 1 1", "tick 3")
	if len(d.Trace()) != 0 || !sameState(d.State(), fresh(example())) || len(c.Trace()) != 7 {
		t.Error(d.Trace(), c.Trace())
	}
}

func spoilEvents(l []api.Event) {
	for i := range l {
		spoilNumbers(l[i].List)
	}
	for i := range l[:cap(l)] {
		l[:cap(l)][i] = api.Event{Kind: -7, Job: -7, At: -7, Nodes: -7, Limit: -7, List: []int{-7}}
	}
}

func spoilNumbers(l []int) {
	for i := range l[:cap(l)] {
		l[:cap(l)][i] = -7
	}
}

func spoilBytes(b []byte) {
	for i := range b[:cap(b)] {
		b[:cap(b)][i] = 0xa5
	}
}

// spoilState writes into all memory that a state has, and into the spare room behind its lists.
func spoilState(s api.State) {
	for _, j := range s.Jobs {
		spoilNumbers(j.Set)
	}
	for n := range s.Accounts[:cap(s.Accounts)] {
		s.Accounts[:cap(s.Accounts)][n] = api.Account{Name: "spoilt", Usage: 7, Closed: true}
	}
	for n := range s.Jobs[:cap(s.Jobs)] {
		s.Jobs[:cap(s.Jobs)][n] = api.Job{Account: -7, Set: []int{-7}}
	}
}

func TestR4AnswersAreTheCallers(t *testing.T) {
	d, p := restored(t, bytesOf(states())), plainOf(t, states())
	var others []*Desk
	for _, line := range []string{"tick 1", "submit z 3 3", "submit z 1 9", "tick 1", "complete 7", "tick 2", "tick 9", "queue", "job 7", "account b z 1", "tick 100"} {
		trace, state, b := d.Trace(), d.State(), d.Save()
		events, was, bytes0 := copiesOf(trace), deepCopy(state), bytes.Clone(b)
		others = append(others, d.Clone())
		for _, x := range append(slices.Clone(others), d) {
			for range 2 {
				spoilEvents(x.Trace())
				spoilState(x.State())
				spoilBytes(x.Save())
			}
		}
		if !sameEvents(trace, events) || !sameState(state, was) || !bytes.Equal(b, bytes0) {
			t.Fatalf("%q: what was told has changed", line)
		}
		alike(t, d, p)
		agrees(t, d, p, line)
		if !sameEvents(trace, events) || !sameState(state, was) || !bytes.Equal(b, bytes0) {
			t.Fatalf("%q: what was told has changed", line)
		}
		spoilEvents(trace)
		spoilState(state)
		spoilBytes(b)
		alike(t, d, p)
	}
	for n, x := range others[1:] {
		if l := x.Trace(); !sameEvents(l, p.events[:len(l)]) || len(l) == 0 {
			t.Errorf("clone %d: %+v", n+1, l)
		}
	}
}

// No two lists of one answer share memory, nor their spare room.
func TestR4NoTwoListsShare(t *testing.T) {
	d := restored(t, bytesOf(states()))
	does(t, d, "submit z 1 3", "tick 256")
	want := d.Trace()
	l := d.Trace()
	for i := range l {
		spoilNumbers(l[i].List)
		for k := i + 1; k < len(l); k++ {
			if !slices.Equal(l[k].List, want[k].List) {
				t.Fatalf("event %d has %v behind a write into %d's", k, l[k].List, i)
			}
		}
	}
	s, before := d.State(), d.State()
	for n := range s.Jobs {
		spoilNumbers(s.Jobs[n].Set)
		for m := n + 1; m < len(s.Jobs); m++ {
			if !slices.Equal(s.Jobs[m].Set, before.Jobs[m].Set) {
				t.Fatalf("job %d has %v behind a write into %d's", m, s.Jobs[m].Set, n)
			}
		}
	}
}

func TestR4RestoreKeepsNothing(t *testing.T) {
	for _, s := range taken() {
		b := append(bytesOf(s), "spare"...)
		handed := b[:len(b)-5]
		d, e := Restore(handed)
		if e != 0 || !bytes.Equal(handed, bytesOf(s)) || string(b[len(b)-5:]) != "spare" {
			t.Fatalf("%d %s", e, short(b))
		}
		spoilBytes(b)
		if !sameState(d.State(), s) || !bytes.Equal(d.Save(), bytesOf(s)) {
			t.Fatalf("%s, not %s", short(d.State()), short(s))
		}
		p := plainOf(t, s)
		for _, line := range []string{"queue", "tick 1", "usage root", "tick 3"} {
			agrees(t, d, p, line)
		}
	}
	// Nor where they are refused.
	b := append(bytesOf(states()), "spare"...)
	was := bytes.Clone(b)
	for cut := range b {
		Restore(b[:cut])
	}
	if !bytes.Equal(b, was) {
		t.Error(short(b))
	}
}

// Two of one text of bytes have nothing in common.
func TestR4TwoOfTheSameBytes(t *testing.T) {
	b := bytesOf(states())
	d, x := restored(t, b), restored(t, b)
	does(t, d, "cancel 7", "account b z 1", "tick 30")
	if !bytes.Equal(x.Save(), bytesOf(states())) || len(x.Trace()) != 0 || !bytes.Equal(b, bytesOf(states())) {
		t.Error(short(x.State()))
	}
}

// A desk and its clones may be asked side by side.
func TestR5SideBySide(t *testing.T) {
	d := restored(t, bytesOf(states()))
	does(t, d, "submit z 1 3", "tick 5")
	text := "tick 3\nsubmit z 2 2\nqueue\ntick 9\nusage a\naccount b z 1\nsubmit b 1 1\ntick 20\ncomplete 10\ncancel 11\n"
	want := d.Clone()
	told := want.Run(text)
	var wait sync.WaitGroup
	for range 8 {
		c := d.Clone()
		wait.Go(func() {
			if got := c.Run(text); got != told || !bytes.Equal(c.Save(), want.Save()) || !sameEvents(c.Trace(), want.Trace()) {
				t.Errorf("%q, not %q", got, told)
			}
		})
	}
	wait.Wait()
}

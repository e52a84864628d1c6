package desk

import (
	"bytes"
	"slices"
	"strconv"
	"strings"
	"testing"

	"backfill/api"
	"backfill/audit"
	"backfill/config"
	"backfill/core"
	"backfill/ledger"
	"backfill/verbs"
)

// mixed goes through numbers without an order, always the same ones.
func mixed(seed uint64) uint64 {
	seed += 0x9e3779b97f4a7c15
	seed = (seed ^ seed>>30) * 0xbf58476d1ce4e5b9
	seed = (seed ^ seed>>27) * 0x94d049bb133111eb
	return seed ^ seed>>31
}

type dice struct{ seed uint64 }

func (d *dice) word() uint64 {
	d.seed++
	return mixed(d.seed)
}

func (d *dice) below(n int) int { return int(d.word() % uint64(n)) }

func (d *dice) from(low, high int) int { return low + d.below(high-low+1) }

func (d *dice) oneIn(n int) bool { return d.below(n) == 0 }

func pick[T any](d *dice, l []T) T { return l[d.below(len(l))] }

// drawnConfig is small enough that all that may happen does.
func drawnConfig(d *dice) api.Config {
	for {
		c := api.Config{
			Nodes: pick(d, []int{1, 2, 3, 4, 4, 8, 70}), Queue: d.from(1, 8), Limit: d.from(1, 9),
			Age: pick(d, []int{1, 1, 2, 7, 40}), Fair: pick(d, []int{0, 0, 1000, 2000, 5000}), Size: pick(d, []int{0, 0, 1, 3, 50}),
			Period: pick(d, []int{1, 2, 5, 10, 30}), Half: pick(d, []int{1, 5, 10, 33}),
		}
		if config.Check(c) == 0 {
			return c
		}
	}
}

// those are the numbers of the jobs of some States.
func those(s api.State, states ...int) []int {
	var l []int
	for n, j := range s.Jobs {
		if slices.Contains(states, j.State) {
			l = append(l, n)
		}
	}
	return l
}

// drawnCommand is a line that is a command's; it may be refused, but mostly is not.
func drawnCommand(d *dice, s api.State) string {
	name := func() string {
		return pick(d, []string{pick(d, s.Accounts).Name, pick(d, s.Accounts).Name, s.Accounts[len(s.Accounts)-1].Name, "n" + strconv.Itoa(d.from(1, 5))})
	}
	number := func(low, high int) string {
		if d.oneIn(30) {
			return pick(d, []string{"0", "256", "257", "4097", "9223372036854775807"})
		}
		return strconv.Itoa(d.from(low, max(low, high)))
	}
	job := func(states ...int) string {
		l := those(s, states...)
		if len(l) == 0 || d.oneIn(8) {
			return number(0, len(s.Jobs)+1)
		}
		return strconv.Itoa(pick(d, l))
	}
	switch d.below(26) {
	case 0, 1, 2, 3:
		return "submit " + name() + " " + number(1, s.Config.Nodes) + " " + number(1, s.Config.Limit)
	case 4, 5, 6:
		return "submit " + name() + " " + number(1, (s.Config.Nodes+3)/4) + " " + number(1, s.Config.Limit)
	case 7:
		return "cancel " + job(1, 2)
	case 8, 9:
		return "complete " + job(2)
	case 10, 11, 12, 13, 14:
		return "tick " + number(1, 3)
	case 15, 16:
		return "tick " + number(1, 30)
	case 17, 18:
		return "account n" + strconv.Itoa(len(s.Accounts)) + " " + name() + " " + number(1, 9)
	case 19:
		return "shares " + name() + " " + number(1, 4096)
	case 20:
		return "move " + name() + " " + name()
	case 21:
		return "job " + job(1, 2, 3, 4, 5, 6)
	case 22:
		return "usage " + name()
	case 23:
		if d.oneIn(4) {
			return "close " + name()
		}
		return "account " + name() + " " + name() + " 1"
	case 24:
		return pick(d, []string{"nodes", "config"})
	}
	return "queue"
}

// drawnLine may be no command at all, too; it has no LF.
func drawnLine(d *dice, s api.State) string {
	line := drawnCommand(d, s)
	switch d.below(24) {
	case 0:
		return pick(d, []string{"", " ", "#", "# " + line, "   #" + line, strings.Repeat(" ", d.below(600)), "#" + strings.Repeat("x", d.below(600))})
	case 1:
		return pick(d, []string{" " + line, line + " ", line + " #", line + "#", strings.Replace(line, " ", "  ", 1), strings.Replace(line, " ", "\t", 1), line + "\r", strings.ToUpper(line), line + " 1", "\t", "x", line + strings.Repeat(" ", 300)})
	case 2:
		// Any byte in any place.
		b, sign := []byte(line), byte(d.word())
		if sign == 10 {
			sign = 0
		}
		at := d.below(len(b) + 1)
		return string(slices.Insert(b, at, sign))
	case 3:
		at := d.below(len(line))
		return line[:at] + line[at+1:]
	}
	return line
}

// script is a list of lines for who stands so, the first ones bring accounts if there are none.
func script(t *testing.T, d *dice, s api.State, many int) []string {
	t.Helper()
	p := plainOf(t, s)
	var l []string
	for n := range many {
		line := drawnLine(d, p.x.State())
		if n < 3 && len(p.x.State().Accounts) < 4 {
			line = "account n" + strconv.Itoa(n+1) + " " + pick(d, p.x.State().Accounts).Name + " " + strconv.Itoa(d.from(1, 5))
		}
		p.line(line)
		l = append(l, line)
	}
	return l
}

// reached is a state that a core has come to.
func reached(t *testing.T, d *dice) api.State {
	t.Helper()
	c := drawnConfig(d)
	p := plainNew(t, c)
	for _, line := range script(t, d, fresh(c), d.from(3, 40)) {
		p.line(line)
	}
	return p.x.State()
}

// bent is one that audit takes and that hardly a core has come to: nodes are renamed, anybody who may holds, usages are any, and the clock may be near its end.
func bent(t *testing.T, d *dice) api.State {
	t.Helper()
	s := reached(t, d)
	turn := d.below(s.Config.Nodes)
	for n := range s.Jobs {
		for i := range s.Jobs[n].Set {
			s.Jobs[n].Set[i] = (s.Jobs[n].Set[i] + turn) % s.Config.Nodes
		}
		slices.Sort(s.Jobs[n].Set)
	}
	if d.oneIn(2) {
		later(&s, 1<<40-config.Bound(s.Config)-s.Now-d.below(20))
	}
	drawnHolder(d, &s)
	drawnUsages(d, &s)
	if audit.Check(s) != 0 {
		t.Fatal(short(s), audit.Check(s))
	}
	return s
}

// later lets all have been so many ticks later.
func later(s *api.State, ticks int) {
	s.Now += ticks
	for n := range s.Jobs {
		j := &s.Jobs[n]
		j.Submit += ticks
		if j.State >= 2 && j.State <= 5 {
			j.Start += ticks
		}
		if j.State > 2 {
			j.End += ticks
		}
	}
}

func drawnHolder(d *dice, s *api.State) {
	s.Holder = -1
	for _, n := range those(*s, 1) {
		if s.Jobs[n].Submit < s.Now && d.oneIn(2) {
			s.Holder = n
		}
	}
}

func drawnUsages(d *dice, s *api.State) {
	for n := range s.Accounts {
		if raw := uint64(ledger.Raw(s.Jobs, []int{n}, s.Now)); raw > 0 {
			s.Accounts[n].Usage = pick(d, []uint64{0, raw * q, raw*q - 1, d.word() % (raw * q)})
		}
	}
}

// thrown is a state of jobs that are drawn one by one, at any times and on any nodes: those stay with which audit takes it.
func thrown(t *testing.T, d *dice) api.State {
	t.Helper()
	s := fresh(drawnConfig(d))
	s.Now = pick(d, []int{0, 1, 5, 30, 30, 30})
	for n := 1; n < 5; n++ {
		s.Accounts = append(s.Accounts, api.Account{Name: "n" + strconv.Itoa(n), Parent: d.below(n), Shares: d.from(1, 9), Closed: d.oneIn(5)})
	}
	if audit.Check(s) != 0 {
		s.Accounts = s.Accounts[:3]
	}
	for range d.from(20, 120) {
		j := api.Job{Account: d.from(1, len(s.Accounts)-1), Nodes: d.from(1, s.Config.Nodes), Limit: d.from(1, s.Config.Limit), Submit: d.from(0, s.Now), State: d.from(1, 6)}
		if len(s.Jobs) > 0 {
			j.Submit = min(s.Now, s.Jobs[len(s.Jobs)-1].Submit+d.below(3))
		}
		if j.State == 2 || j.State == 3 || j.State == 4 || j.State == 5 {
			j.Start = j.Submit + d.from(1, 12)
			all := numbers(0, s.Config.Nodes)
			for len(all) > j.Nodes {
				at := d.below(len(all))
				all = slices.Delete(all, at, at+1)
			}
			j.Set = all
		}
		switch j.State {
		case 3, 5:
			j.End = j.Start + d.below(j.Limit)
		case 4:
			j.End = j.Start + j.Limit
		case 6:
			j.End = d.from(j.Submit, s.Now)
		}
		s.Jobs = append(s.Jobs, j)
		if audit.Check(s) != 0 {
			s.Jobs = s.Jobs[:len(s.Jobs)-1]
		}
	}
	drawnHolder(d, &s)
	drawnUsages(d, &s)
	if audit.Check(s) != 0 {
		t.Fatal(short(s), audit.Check(s))
	}
	return s
}

// drawnState is any of these, or one at its beginning.
func drawnState(t *testing.T, d *dice) api.State {
	t.Helper()
	switch d.below(4) {
	case 0:
		return reached(t, d)
	case 1:
		return bent(t, d)
	case 2:
		return thrown(t, d)
	}
	return fresh(drawnConfig(d))
}

// firstWord is how an answer begins; of an error all of it.
func firstWord(told string) string {
	if strings.HasPrefix(told, "error ") {
		return strings.TrimSuffix(told, "\n")
	}
	word, _, _ := strings.Cut(strings.TrimSuffix(told, "\n"), " ")
	word, _, _ = strings.Cut(word, "\n")
	return word
}

// From any state that audit takes: a desk does what the chapter says; what is answered with an error changes nothing; audit takes what it comes to (agrees asks all of it).
func TestP208AndP209DrawnLines(t *testing.T) {
	told := map[string]int{}
	for seed := range uint64(400) {
		die := &dice{1000 * seed}
		s := drawnState(t, die)
		d, p := restored(t, bytesOf(s)), plainOf(t, s)
		for _, line := range script(t, die, s, 50) {
			told[firstWord(agrees(t, d, p, line))]++
			if die.oneIn(30) {
				d = d.Clone()
			}
		}
	}
	for _, word := range []string{"", "ok", "job", "account", "holder", "usage", "free", "config"} {
		if told[word] < 100 {
			t.Errorf("%q is told %d times", word, told[word])
		}
	}
	for _, e := range []int{61, 62, 63, 64, 66, 67, 80, 81, 82, 83, 180, 181, 182, 183, 184, 185, 186, 187, 189} {
		if many := told["error "+strconv.Itoa(e)]; many < 5 {
			t.Errorf("error %d is told %d times", e, many)
		}
	}
}

// Each kind of command, from each kind of state, for each job: refused or not, audit takes what it leads to.
func TestP209EachJob(t *testing.T) {
	all := []api.State{states(), much()}
	for seed := range uint64(20) {
		all = append(all, thrown(t, &dice{1<<20 + 1000*seed}))
	}
	for _, s := range all {
		begin := restored(t, bytesOf(s))
		for job := range len(s.Jobs) + 1 {
			for _, word := range []string{"cancel ", "complete ", "job "} {
				d, p := begin.Clone(), plainOf(t, s)
				agrees(t, d, p, word+strconv.Itoa(job))
				agrees(t, d, p, "tick "+strconv.Itoa(1+job%9))
				agrees(t, d, p, "queue")
			}
		}
	}
}

func TestP203DrawnTexts(t *testing.T) {
	for seed := range uint64(150) {
		d := &dice{1<<21 + 1000*seed}
		s := drawnState(t, d)
		text := strings.Join(script(t, d, s, d.from(0, 60)), "\n") + pick(d, []string{"", "\n", "\n\n", "\n \n"})
		runs(t, s, text)
	}
}

func TestP206DrawnTexts(t *testing.T) {
	for seed := range uint64(60) {
		die := &dice{1<<22 + 1000*seed}
		s := drawnState(t, die)
		lines := script(t, die, s, die.from(1, 40))
		text := strings.Join(lines, "\n") + pick(die, []string{"", "\n", "\n\n"})
		whole := restored(t, bytesOf(s))
		told := whole.Run(text)
		events, b := whole.Trace(), whole.Save()
		for cut := 0; cut <= len(text); cut++ {
			if cut > 0 && text[cut-1] != 10 {
				continue
			}
			d := restored(t, bytesOf(s))
			first := d.Run(text[:cut])
			if second := d.Run(text[cut:]); first+second != told || !bytes.Equal(d.Save(), b) || !sameEvents(d.Trace(), events) {
				t.Fatalf("%q, cut at %d: %q and %q, not %q", text, cut, first, second, told)
			}
		}
		// By as many cuts as there are.
		d := restored(t, bytesOf(s))
		all := ""
		for _, line := range plainLines(text) {
			all += d.Run(line + "\n")
		}
		if all != told || !bytes.Equal(d.Save(), b) || !sameEvents(d.Trace(), events) {
			t.Fatalf("%q: %q, not %q", text, all, told)
		}
	}
}

// As long as the whole may be.
func TestP206Longest(t *testing.T) {
	s := fresh(example())
	lines := script(t, &dice{77}, s, 290)
	text := strings.Join(lines, "\n") + "\n" + strings.Repeat("#\n", 9)
	text += strings.Repeat("#", 20000-len(text))
	if len(text) != 20000 || len(plainLines(text)) != 300 {
		t.Fatal(len(text), len(plainLines(text)))
	}
	told := runs(t, s, text)
	for cut := range text {
		if text[cut] != 10 {
			continue
		}
		d := restored(t, bytesOf(s))
		if first, second := d.Run(text[:cut+1]), d.Run(text[cut+1:]); first+second != told {
			t.Fatalf("cut at %d: %q and %q", cut, short(first), short(second))
		}
	}
	// Each for itself is done, where the whole is not.
	d := restored(t, bytesOf(s))
	if d.Run(text+"\ntick 1") != "error 80\n" || !sameState(d.State(), s) || d.Run(text)+d.Run("\ntick 1") == "error 80\n" {
		t.Error(short(d.State()))
	}
}

func TestP207DrawnTexts(t *testing.T) {
	for seed := range uint64(120) {
		die := &dice{1<<23 + 1000*seed}
		s := drawnState(t, die)
		d := restored(t, bytesOf(s))
		// Who was restored, and how many events there were then.
		type other struct {
			d    *Desk
			from int
		}
		others := []other{{restored(t, d.Save()), 0}}
		for _, line := range script(t, die, s, 40) {
			again := other{restored(t, d.Save()), len(d.Trace())}
			told := d.Line(line)
			for _, x := range append(slices.Clone(others), again) {
				if also := x.d.Line(line); also != told || !bytes.Equal(x.d.Save(), d.Save()) || !sameState(x.d.State(), d.State()) {
					t.Fatalf("%q: %q, not %q", line, also, told)
				}
				if !sameEvents(x.d.Trace(), d.Trace()[x.from:]) {
					t.Fatalf("%q: %s, not %s", line, short(x.d.Trace()), short(d.Trace()[x.from:]))
				}
			}
			if die.oneIn(15) {
				others = append(others, again)
			}
		}
	}
}

// At a text as a whole, too, and one that was Saved twice over.
func TestP207Runs(t *testing.T) {
	for seed := range uint64(100) {
		die := &dice{1<<24 + 1000*seed}
		s := drawnState(t, die)
		lines := script(t, die, s, 60)
		cut := die.below(60)
		first, second := strings.Join(lines[:cut], "\n"), strings.Join(lines[cut:], "\n")
		d := restored(t, bytesOf(s))
		d.Run(first)
		many := len(d.Trace())
		x := restored(t, restored(t, d.Save()).Save())
		told := d.Run(second)
		if also := x.Run(second); also != told || !bytes.Equal(x.Save(), d.Save()) || !sameEvents(x.Trace(), d.Trace()[many:]) {
			t.Fatalf("%q: %q, not %q", second, also, told)
		}
	}
}

// Clones and what they are of go on by unlike scripts, in turns.
func TestP205DrawnClones(t *testing.T) {
	for seed := range uint64(60) {
		die := &dice{1<<25 + 1000*seed}
		s := drawnState(t, die)
		all := []both{{t, restored(t, bytesOf(s)), plainOf(t, s)}}
		for range 80 {
			b := pick(die, all)
			line := drawnLine(die, b.d.State())
			if told, want := b.d.Line(line), b.p.line(line); told != want {
				t.Fatalf("%q: %q, not %q", line, told, want)
			}
			if die.oneIn(10) {
				all = append(all, b.clone())
			}
		}
		for _, b := range all {
			alike(t, b.d, b.p)
		}
	}
}

// Any text whatever is answered, by lines that are whole.
func anyText(t *testing.T, text string) {
	t.Helper()
	s := states()
	told := runs(t, s, text)
	if told != "" && !strings.HasSuffix(told, "\n") {
		t.Fatalf("%q: %q", text, told)
	}
	d, p := restored(t, bytesOf(s)), plainOf(t, s)
	agrees(t, d, p, text)
}

func TestR1AnyTexts(t *testing.T) {
	words := []string{"submit", "cancel", "complete", "tick", "account", "shares", "move", "close", "job", "queue", "usage", "nodes", "config", "a", "z", "root", "0", "1", "2", "9", "256", "9223372036854775807", "9223372036854775808", "-1", "#", " ", "  ", "\n", "\n", "\n\n", "\t", "\r\n", "\x00", "\xff", "ä", "error"}
	for seed := range uint64(1500) {
		d := &dice{1<<26 + 1000*seed}
		text := ""
		for range d.below(40) {
			text += pick(d, words) + pick(d, []string{" ", " ", " ", "\n", ""})
		}
		anyText(t, text)
	}
	for seed := range uint64(300) {
		d := &dice{1<<27 + 1000*seed}
		b := make([]byte, d.below(300))
		for i := range b {
			b[i] = byte(d.word())
		}
		anyText(t, string(b))
	}
}

func FuzzTexts(f *testing.F) {
	for _, text := range []string{"", "tick 1", "submit z 1 1\ntick 9\nqueue\n", "#\n\n x", "cancel 7\ncomplete 3\n", "account b z 1\nmove b a\nclose z\nshares a 9"} {
		f.Add(text)
	}
	f.Fuzz(anyText)
}

// Any bytes whatever are refused, or are a desk's whose Save they are, and that audit takes (W8).
func anyBytes(t *testing.T, b []byte) api.Errno {
	t.Helper()
	was := bytes.Clone(b)
	d, e := Restore(b)
	if (d == nil) != (e != 0) || e != 0 && e != 190 && e != 191 || !bytes.Equal(b, was) {
		t.Fatalf("%s: %d", short(b), e)
	}
	if e == 0 && (!bytes.Equal(d.Save(), b) || audit.Check(d.State()) != 0 || len(d.Trace()) != 0) {
		t.Fatalf("%s are %s", short(b), short(d.State()))
	}
	if e == 0 {
		agrees(t, d, plainOf(t, d.State()), "tick 3")
	}
	return e
}

func TestW8AnyBytes(t *testing.T) {
	told := map[api.Errno]int{}
	for seed := range uint64(300) {
		d := &dice{1<<28 + 1000*seed}
		b := bytesOf(drawnState(t, d))
		told[anyBytes(t, b)]++
		for range 20 {
			c := bytes.Clone(b)
			for range d.from(1, 2) {
				// Mostly low bytes, so that some are a state's still.
				at := 9 + 8*d.below((len(c)-9)/8) + 7
				if d.oneIn(4) {
					at = d.below(len(c))
				}
				c[at] = pick(d, []byte{c[at] + 1, c[at] - 1, 0, 1, byte(d.word())})
			}
			told[anyBytes(t, c)]++
		}
		told[anyBytes(t, b[:d.below(len(b))])]++
	}
	for _, e := range []api.Errno{0, 190, 191} {
		if told[e] < 300 {
			t.Error(told)
		}
	}
}

// The same lines are answered alike, whatever order maps are gone through in, and whoever was asked before.
func TestR5AnswersAlike(t *testing.T) {
	for seed := range uint64(10) {
		die := &dice{1<<29 + 1000*seed}
		s := drawnState(t, die)
		text := strings.Join(script(t, die, s, 60), "\n")
		first := restored(t, bytesOf(s))
		told := first.Run(text)
		for range 4 {
			d := restored(t, bytesOf(s))
			if also := d.Run(text); also != told || !bytes.Equal(d.Save(), first.Save()) || !sameEvents(d.Trace(), first.Trace()) {
				t.Fatalf("%q: %q, not %q", text, also, told)
			}
		}
	}
}

// Looking at a desk changes nothing that is told later.
func TestR5Looking(t *testing.T) {
	for seed := range uint64(30) {
		die := &dice{1<<30 + 1000*seed}
		s := drawnState(t, die)
		d, x := restored(t, bytesOf(s)), restored(t, bytesOf(s))
		for _, line := range script(t, die, s, 40) {
			x.Trace()
			x.State()
			x.Save()
			x.Clone().Line(line)
			x.Line("queue")
			x.Line("usage root")
			if told, also := d.Line(line), x.Line(line); told != also {
				t.Fatalf("%q: %q, not %q", line, also, told)
			}
		}
		if !bytes.Equal(d.Save(), x.Save()) || !sameEvents(d.Trace(), x.Trace()) {
			t.Fatal(short(x.State()))
		}
	}
}

// What a script's commands are is what verbs says: drawn lines are taken and refused in good numbers, so that the tests above ask for both.
func TestScriptsAreMixed(t *testing.T) {
	taken, refused, idle := 0, 0, 0
	for seed := range uint64(50) {
		d := &dice{1<<31 + 1000*seed}
		s := drawnState(t, d)
		x, e := core.Load(s)
		if e != 0 {
			t.Fatal(e)
		}
		for _, line := range script(t, d, s, 40) {
			c, e := verbs.Parse(line)
			switch {
			case strings.TrimLeft(line, " ") == "" || strings.TrimLeft(line, " ")[0] == '#':
				idle++
			case e != 0 || x.Do(c).Code != 0:
				refused++
			default:
				taken++
			}
		}
	}
	if taken < 800 || refused < 200 || idle < 30 {
		t.Error(taken, refused, idle)
	}
}

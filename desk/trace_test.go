package desk

import (
	"bytes"
	"strconv"
	"strings"
	"testing"

	"backfill/answers"
	"backfill/api"
)

// eventsOf reads the events that a text tells behind its first line.
func eventsOf(t *testing.T, told string) []api.Event {
	t.Helper()
	var l []api.Event
	for n, line := range plainLines(told) {
		e, code := answers.ReadEvent(line)
		if n > 0 && code == 0 {
			l = append(l, e)
		}
	}
	return l
}

func TestP204InOrder(t *testing.T) {
	d := begun(t, example())
	var want []api.Event
	for _, line := range []string{"account a root 1", "submit a 3 5", "submit a 3 5", "submit a 1 5", "tick 1", "cancel 2", "complete 0", "tick 2", "submit a 4 2", "cancel 3", "tick 97", "tick 1", "cancel 1"} {
		want = append(want, eventsOf(t, d.Line(line))...)
		if l := d.Trace(); !sameEvents(l, want) {
			t.Fatalf("%q: %+v, not %+v", line, l, want)
		}
	}
	kinds := map[int]int{}
	for _, e := range want {
		kinds[e.Kind]++
	}
	for kind := 1; kind <= 7; kind++ {
		if kinds[kind] == 0 {
			t.Error(kinds)
		}
	}
}

// What is refused, only looks, or is no command, tells no events; nor do accounts.
func TestP204Without(t *testing.T) {
	d := begun(t, example(), "account a root 1", "submit a 3 5", "submit a 3 5", "tick 1")
	was := d.Trace()
	if len(was) != 6 {
		t.Fatal(was)
	}
	for _, line := range []string{
		"", " ", "#", "# tick 1", "tock 1", "tick", "tick x", strings.Repeat("x", 257), " tick 1", "tick 1\r\n",
		"tick 0", "tick 257", "submit a 9 9", "submit b 1 1", "cancel 9", "complete 1", "complete 9", "account a root 1", "shares b 1", "move b a", "close b", "job 9", "usage b",
		"job 0", "queue", "usage a", "nodes", "config",
		"account b a 1", "shares b 9", "move b root", "close b",
	} {
		d.Line(line)
		d.Run(line)
		if l := d.Trace(); !sameEvents(l, was) {
			t.Fatalf("%q: %+v, not %+v", line, l, was)
		}
	}
	does(t, d, "tick 1")
	if l := d.Trace(); len(l) != 8 || !sameEvents(l[:6], was) {
		t.Error(l)
	}
}

// crowd has one node, and runs one job for long: 128 others wait, so that a tick tells two events of 1 + 129 in all.
func crowd() api.Config {
	return api.Config{Nodes: 1, Queue: 128, Limit: 1 << 20, Age: 1, Period: 1 << 20, Half: 1 << 20}
}

// both are a desk, and the chapter's words, that do the same.
type both struct {
	t *testing.T
	d *Desk
	p *plain
}

func (b both) clone() both { return both{b.t, b.d.Clone(), b.p.clone()} }

func (b both) does(lines ...string) {
	b.t.Helper()
	for _, line := range lines {
		told, want := b.d.Line(line), b.p.line(line)
		if told != want || told == "" || strings.HasPrefix(told, "error") {
			b.t.Fatalf("%q: %s, not %s", line, short(told), short(want))
		}
	}
}

// newest names the job that was submitted last.
func (b both) newest() string { return strconv.Itoa(len(b.d.State().Jobs) - 1) }

func crowded(t *testing.T) both {
	t.Helper()
	b := both{t, begun(t, crowd()), plainNew(t, crowd())}
	b.does("account a root 1", "submit a 1 1048576", "tick 1")
	for range 128 {
		b.does("submit a 1 1048576")
	}
	b.does("tick 1")
	return b
}

// fillTo goes on till there is room for just so much more. The queue is full then, and the first of those that wait holds.
func (b both) fillTo(left int) {
	b.t.Helper()
	many := 1048576 - left - sizeOf(b.p.events)
	if many%2 == 1 {
		// Another one is pinned: one event more.
		b.does("cancel "+strconv.Itoa(b.d.State().Holder), "submit a 1 1048576", "tick 1")
		many -= 133
	}
	for ; many >= 130; many -= 130 * min(many/130, 256) {
		b.does("tick " + strconv.Itoa(min(many/130, 256)))
	}
	for ; many > 0; many -= 2 {
		b.does("cancel "+b.newest(), "submit a 1 1048576")
	}
	if many != 0 || sizeOf(b.p.events) != 1048576-left || len(b.p.x.Do(api.Cmd{Kind: 10}).Ranks) != 128 {
		b.t.Fatal(many, sizeOf(b.p.events))
	}
}

// keeps holds what is kept of lines against so many events, which leave so much room.
func (b both) keeps(many, left int, lines ...string) {
	b.t.Helper()
	was := len(b.d.Trace())
	b.does(lines...)
	l := b.d.Trace()
	if len(l)-was != many || sizeOf(l) != 1048576-left || !sameEvents(l, b.p.trace()) {
		b.t.Errorf("%q: %d more are kept, %d in all", lines, len(l)-was, sizeOf(l))
	}
}

func TestP204Full(t *testing.T) {
	begin := crowded(t)
	begin.fillTo(2000)
	at := func(left int) both {
		t.Helper()
		b := begin.clone()
		b.fillTo(left)
		b.keeps(0, left)
		return b
	}

	// A tick and its pass fit exactly; from there on none is kept.
	b := at(130)
	b.keeps(2, 0, "tick 1")
	b.keeps(0, 0, "tick 1", "cancel "+b.newest(), "submit a 1 1")
	b.keeps(0, 0, "complete 0", "tick 3")

	// One less: the tick fits, the pass does not; nor is any later one kept, though there would be room for 128 of them.
	b = at(129)
	b.keeps(1, 128, "tick 1")
	b.keeps(0, 128, "cancel "+b.newest())
	b.keeps(0, 128, "submit a 1 1", "tick 1", "complete 0", "tick 5")
	// Also where all is one answer.
	b = at(129)
	b.keeps(1, 128, "tick 2")
	b = at(259)
	b.keeps(3, 128, "tick 256")
	// Nor at a clone.
	c := b.clone()
	c.keeps(0, 128, "cancel "+c.newest())

	// One more: the next tick fits, too.
	b = at(131)
	b.keeps(2, 1, "tick 1")
	b.keeps(1, 0, "tick 1")
	b.keeps(0, 0, "tick 1")

	// Events without a List.
	b = at(1)
	b.keeps(1, 0, "cancel "+b.newest())
	b.keeps(0, 0, "submit a 1 1")
	b = at(2)
	b.keeps(2, 0, "cancel "+b.newest(), "submit a 1 1")
	b.keeps(0, 0, "cancel "+b.newest())
	b = at(0)
	b.keeps(0, 0, "cancel "+b.newest())
	b.keeps(0, 0, "tick 1")

	// A start has its node: the tick, the pass and it are 132, and who is pinned is 1 more.
	for left, kept := range map[int][2]int{132: {3, 1}, 133: {4, 0}, 134: {5, 0}, 135: {5, 1}} {
		b = at(left)
		b.keeps(kept[0], kept[1], "complete 0", "tick 1")
		if left < 135 {
			b.keeps(0, kept[1], "cancel "+b.newest())
		} else {
			b.keeps(1, 0, "cancel "+b.newest())
		}
	}
}

// What tells no events takes no room.
func TestP204NoRoomTaken(t *testing.T) {
	b := crowded(t)
	b.fillTo(1)
	for _, line := range []string{"queue", "nodes", "config", "usage a", "job 0", "account b a 1", "shares b 2", "move b root", "close b", "tick 0", "submit a 1 1", "cancel 9999", "complete 1", "tock", "tick", "tick x", "", "# x"} {
		if told, want := b.d.Line(line), b.p.line(line); told != want {
			t.Fatalf("%q: %q, not %q", line, told, want)
		}
	}
	if told := b.d.Run(strings.Repeat("tick 1\n", 301)); told != "error 80\n" {
		t.Error(told)
	}
	b.keeps(0, 1)
	// Two that go on from here each have the room for themselves.
	c, e := b.clone(), b.clone()
	b.keeps(1, 0, "cancel "+b.newest())
	c.keeps(1, 0, "tick 1")
	c.keeps(0, 0, "tick 1")
	e.keeps(1, 0, "complete 0")
	b.keeps(0, 0, "submit a 1 1")
	// All else goes on as ever, though nothing is kept.
	for range 3 {
		for _, x := range []both{b, c, e} {
			x.does("tick 20", "queue", "usage a", "cancel "+x.newest(), "submit a 1 7")
		}
	}
	for _, x := range []both{b, c, e} {
		alike(t, x.d, x.p)
	}

	// One that is restored has all room anew.
	d := restored(t, b.d.Save())
	p := plainOf(t, b.d.State())
	again := both{t, d, p}
	again.keeps(2, 1048574, "cancel "+again.newest(), "submit a 1 1048576")
	again.fillTo(130)
	again.keeps(2, 0, "tick 1")
	again.keeps(0, 0, "tick 1")
	if !bytes.Equal(d.Save(), restored(t, d.Save()).Save()) {
		t.Error("it is read as another one")
	}
}

// Lists of many nodes count by each of them.
func TestP204Nodes(t *testing.T) {
	c := greatest()
	c.Period = 1 << 20
	b := both{t, begun(t, c), plainNew(t, c)}
	b.does("account a root 1")
	// Each is submitted (1); there is a tick (1), a pass (2), a start (257), an end (1).
	for n := range 4010 {
		b.does("submit a 256 1", "tick 1", "complete "+strconv.Itoa(n))
	}
	// 4002 times 262, and of the next one all up to its start.
	b.keeps(0, 48)
	if l := b.d.Trace(); len(l) != 5*4002+3 || l[len(l)-1].Kind != 5 {
		t.Error(len(l))
	}
}

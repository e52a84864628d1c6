package judge

import (
	"fmt"
	"slices"
	"strconv"
	"strings"
	"testing"

	"backfill/api"
)

// short fades each 4 ticks.
func short() api.Config {
	return api.Config{Nodes: 4, Queue: 8, Limit: 10, Age: 1, Period: 4, Half: 4}
}

// stand is how things are behind a trace: job 0 runs (till 11), job 1 has ended, job 2 runs till 4 or has been killed then, job 3 is pending or has been dropped.
type stand struct {
	trace     string
	now, next int
	// Somebody is due; a fade is wanted; a pass is; somebody is pending; the plan has a next start; who holds is not who should.
	due, fade, pass, pends, left, pin bool
}

const (
	early   = "submit 0 0 1 10, submit 1 0 1 1, submit 2 0 1 3, submit 3 0 4 5, tick 1, pass 1 0 1 2 3, start 0 1 0, start 1 1 1, start 2 1 2, pin 3 1, tick 2, end 1 2 killed, "
	quiet   = early + "pass 2 3, "
	dropped = quiet + "end 3 2 dropped, "
	// Job 4 takes a node of which job 3 has no use till 11.
	filling = early + "pass 2 3, submit 4 2 1 5, tick 3, pass 3 3 4, "
)

func stands() []stand {
	return []stand{
		{trace: quiet, now: 2, next: 4, pends: true},
		{trace: dropped, now: 2, next: 4},
		{trace: quiet + "tick 3, ", now: 3, next: 4, pass: true, pends: true},
		{trace: dropped + "tick 3, ", now: 3, next: 4, pass: true},
		{trace: quiet + "tick 3, pass 3, ", now: 3, next: 4, pends: true}, // without a plan
		{trace: quiet + "tick 3, pass 3 3, tick 4, ", now: 4, next: 4, due: true, fade: true, pass: true, pends: true},
		{trace: dropped + "tick 3, tick 4, ", now: 4, next: 4, due: true, fade: true, pass: true},
		{trace: quiet + "tick 3, pass 3 3, tick 4, end 2 4 killed, ", now: 4, next: 4, fade: true, pass: true, pends: true},
		{trace: dropped + "tick 3, tick 4, end 2 4 killed, ", now: 4, next: 4, fade: true, pass: true},
		{trace: quiet + "tick 3, pass 3 3, tick 4, decay 4, ", now: 4, next: 4, due: true, pass: true, pends: true},
		{trace: dropped + "tick 3, tick 4, decay 4, ", now: 4, next: 4, due: true, pass: true},
		{trace: quiet + "tick 3, pass 3 3, tick 4, end 2 4 killed, decay 4, ", now: 4, next: 4, pass: true, pends: true},
		{trace: quiet + "tick 3, pass 3 3, tick 4, pass 4 3, ", now: 4, next: 4, due: true, pends: true}, // without a plan
		{trace: quiet + "tick 3, pass 3 3, tick 4, pass 4 3, tick 5, ", now: 5, next: 4, due: true, pass: true, pends: true},
		{trace: filling, now: 3, next: 5, pends: true, left: true},
		{trace: filling + "start 4 3 1, ", now: 3, next: 5, pends: true},
		{trace: filling + "pin 4 3, ", now: 3, next: 5, pends: true, left: true, pin: true},
		{trace: filling + "start 4 3 1, pin 3 3, ", now: 3, next: 5, pends: true},
		{trace: early + "end 3 2 dropped, submit 4 2 4 5, tick 3, pass 3 4, ", now: 3, next: 5, pin: true},
		{trace: early + "pass 2 3, submit 4 2 1 8, submit 5 2 4 9, tick 3, pass 3 3 5 4, pin 5 3, ", now: 3, next: 6, pends: true, pin: true, left: true},
		{trace: early + "pass 2 3, submit 4 2 4 9, tick 3, pass 3 3 4, pin 4 3, ", now: 3, next: 5, pends: true, pin: true},
	}
}

// in puts a stand's numbers into an event's text.
func (s stand) in(event string) string {
	return strings.NewReplacer("NOW", strconv.Itoa(s.now), "LATER", strconv.Itoa(s.now+1), "NEXT", strconv.Itoa(s.next)).Replace(event)
}

// holds is holdsBy, with a stand's numbers put in.
func (s stand) holds(t *testing.T, event, own string, others map[string]bool) {
	t.Helper()
	s.holdsBy(t, short(), s.in(event), own, others)
}

// holdsBy tells whether an event has just these faults behind a stand: those by how things are, and the event's own, each once and by rising rules.
func (s stand) holdsBy(t *testing.T, c api.Config, event, own string, others map[string]bool) {
	t.Helper()
	var want []string
	for _, rule := range ruleWords[1:] {
		if others[rule] || slices.Contains(strings.Fields(own), rule) {
			want = append(want, rule)
		}
	}
	lastTells(t, c, s.trace+event, strings.Join(want, " "))
}

// lastTells holds the rules that a trace's last event breaks against these, and all its faults against the chapter's words taken plainly.
func lastTells(t *testing.T, c api.Config, trace, want string) {
	t.Helper()
	l := read(t, trace)
	faults := judged(t, c, l)
	if told := rulesAt(faults, len(l)-1); told != want {
		t.Errorf("%s: %s, not %s", trace, told, want)
	}
	if plainly := plainAll(c, l); !slices.Equal(faults, plainly) {
		t.Errorf("%s: %v, not %v", trace, faults, plainly)
	}
}

// outside are the rules that hang on how things are, of EvSubmit, EvTick, and EvEnd but Killed.
func (s stand) outside() map[string]bool {
	return map[string]bool{"end": s.due, "clock": s.fade, "left": s.pass && s.pends || s.left, "pin": s.pin}
}

const huge = "9223372036854775807"

func TestSubmit(t *testing.T) {
	for _, s := range stands() {
		for event, own := range map[string]string{
			"NEXT NOW 1 1": "", "NEXT NOW 4 10": "",
			"NEXT LATER 1 1": "clock", "NEXT 0 1 1": "clock", "NEXT " + huge + " 4 10": "clock",
			"0 NOW 1 1": "once", "3 NOW 1 1": "once", "7 NOW 1 1": "once", huge + " NOW 1 1": "once",
			"NEXT NOW 0 1": "nodes", "NEXT NOW 5 1": "nodes", "NEXT NOW 1 0": "nodes", "NEXT NOW 1 11": "nodes", "NEXT NOW " + huge + " 1": "nodes", "NEXT NOW 1 " + huge: "nodes", "NEXT NOW 0 0": "nodes",
			"7 LATER 1 1": "once clock", "7 NOW 5 1": "once nodes", "NEXT LATER 1 11": "nodes clock", "7 LATER 0 11": "once nodes clock",
			huge + " " + huge + " " + huge + " " + huge: "once nodes clock",
		} {
			s.holds(t, "submit "+event, own, s.outside())
		}
	}
}

func TestTick(t *testing.T) {
	for _, s := range stands() {
		for event, own := range map[string]string{"LATER": "", "NOW": "clock", "0": "clock", "6": "clock", huge: "clock"} {
			if s.now == 5 && event == "6" {
				continue
			}
			s.holds(t, "tick "+event, own, s.outside())
		}
	}
}

func TestEnd(t *testing.T) {
	for _, s := range stands() {
		for event, own := range map[string]string{
			"0 NOW completed": "", "0 NOW stopped": "", "0 NOW dropped": "end",
			"0 LATER completed": "clock", "0 0 stopped": "clock", "0 " + huge + " dropped": "end clock",
			"1 NOW completed": "once end", "1 NOW stopped": "once end", "1 NOW dropped": "once end",
			"1 LATER completed": "once end clock", "1 LATER stopped": "once end clock", "1 LATER dropped": "once end clock",
			"NEXT NOW completed": "once end", "9 NOW stopped": "once end", huge + " NOW dropped": "once end", huge + " " + huge + " completed": "once end clock",
		} {
			s.holds(t, "end "+event, own, s.outside())
		}
		if three := strings.Contains(s.trace, "end 3 "); !three {
			for event, own := range map[string]string{
				"3 NOW dropped": "", "3 NOW completed": "end", "3 NOW stopped": "end", "3 LATER dropped": "clock", "3 LATER completed": "end clock", "3 0 stopped": "end clock",
			} {
				s.holds(t, "end "+event, own, s.outside())
			}
		}
		if s.due {
			// Who is due is only killed, and just in time.
			for event, own := range map[string]string{"2 NOW completed": "end", "2 NOW stopped": "end", "2 NOW dropped": "end", "2 LATER completed": "end clock"} {
				s.holds(t, "end "+event, own, s.outside())
			}
		}
	}
}

// Killed belongs to a tick: neither a pass nor a fade that is wanted, nor who else is due, is asked for.
func TestKilled(t *testing.T) {
	for _, s := range stands() {
		others := map[string]bool{"left": s.left, "pin": s.pin}
		for event, own := range map[string]string{
			"0 NOW killed": "end", "0 LATER killed": "end clock", "1 NOW killed": "once end", "1 LATER killed": "once end clock",
			"NEXT NOW killed": "once end", "9 NOW killed": "once end", huge + " " + huge + " killed": "once end clock",
		} {
			s.holds(t, "end "+event, own, others)
		}
		if !strings.Contains(s.trace, "end 3 ") {
			s.holds(t, "end 3 NOW killed", "end", others)
		}
		switch {
		case s.due && s.now == 4:
			s.holds(t, "end 2 NOW killed", "", others)
			s.holds(t, "end 2 LATER killed", "clock", others)
		case s.due:
			// It was due at 4.
			s.holds(t, "end 2 NOW killed", "end", others)
			s.holds(t, "end 2 4 killed", "end clock", others)
		case s.now < 4:
			s.holds(t, "end 2 NOW killed", "end", others)
		default:
			s.holds(t, "end 2 NOW killed", "once end", others)
		}
	}
}

func TestDecay(t *testing.T) {
	for _, s := range stands() {
		others := map[string]bool{"end": s.due, "clock": !s.fade, "left": s.left, "pin": s.pin}
		for event, own := range map[string]string{"NOW": "", "LATER": "clock", "0": "clock", huge: "clock"} {
			s.holds(t, "decay "+event, own, others)
		}
	}
}

func TestPass(t *testing.T) {
	for _, s := range stands() {
		var pending []string
		for n, j := range standing(t, short(), s.trace).jobs {
			if j.state == 1 {
				pending = append(pending, strconv.Itoa(n))
			}
		}
		if s.pends && len(pending) == 0 {
			t.Fatal(s.trace)
		}
		all := strings.TrimSuffix(" "+strings.Join(pending, " "), " ")
		others := map[string]bool{"end": s.due, "clock": !s.pass || s.fade, "left": s.left, "pin": s.pin}
		for event, own := range map[string]string{
			"NOW" + all: "", "LATER" + all: "clock", huge + all: "clock",
			"NOW" + all + " 9": "rank", "NOW 0" + all: "rank", "NOW" + all + " 1": "rank", "NOW" + all + " " + huge: "rank", "LATER" + all + " NEXT": "rank clock",
			"NOW" + all + " 2" + all: "rank",
		} {
			s.holds(t, "pass "+event, own, others)
		}
		if len(pending) == 0 {
			continue
		}
		slices.Reverse(pending)
		s.holds(t, "pass NOW "+strings.Join(pending, " "), "", others)
		// Not each; one twice; one twice in another's place.
		s.holds(t, "pass NOW", "rank", others)
		s.holds(t, "pass NOW"+all+all, "rank", others)
		s.holds(t, "pass NOW"+strings.TrimSuffix(all, " "+pending[0]), "rank", others)
		if len(pending) > 1 {
			s.holds(t, "pass NOW"+strings.Repeat(" "+pending[0], len(pending)), "rank", others)
		}
	}
}

// standing is what is known plainly behind a trace.
func standing(t *testing.T, c api.Config, trace string) *plain {
	t.Helper()
	p := plainNew(c)
	for _, e := range read(t, trace) {
		p.hear(e)
	}
	return p
}

// The stands are what they are said to be, and have faults of their own only where they must.
func TestStands(t *testing.T) {
	for _, s := range stands() {
		p := standing(t, short(), s.trace)
		pin := p.open && p.hasPlan && p.plan.Holder != p.holder
		is := stand{s.trace, p.now, len(p.jobs), len(p.overdue()) > 0, p.fadeWanted, p.passWanted, len(p.those(1)) > 0, p.next() >= 0, pin}
		s.pends = is.pends // it is asked for with a pass that is wanted alone
		if is != s {
			t.Errorf("%+v, not %+v", is, s)
		}
	}
}

// filled has a pass open that starts 0 and 3, and pins 1: its shadow is 6, and nothing is extra. 2 would end too late; 4 does not fit once 0 and 3 have their nodes.
const filled = "submit 0 0 2 5, submit 1 0 4 5, submit 2 0 1 9, submit 3 0 1 5, submit 4 0 2 5, tick 1, pass 1 0 1 2 3 4, "

// alone has one open without a holder: it starts 0 and 1.
const alone = "submit 0 0 2 5, submit 1 0 1 9, submit 2 0 1 9, end 2 0 dropped, tick 1, pass 1 0 1, "

func TestStart(t *testing.T) {
	both, last := filled+"start 0 1 0 1, ", filled+"start 0 1 0 1, start 3 1 2, "
	for _, x := range []struct{ before, event, rules string }{
		// The next one.
		{filled, "start 0 1 0 1", ""}, {filled, "start 0 1 2 3", ""}, {filled, "start 0 1 0 3", ""}, {both, "start 3 1 3", ""},
		{alone, "start 0 1 0 1", ""}, {alone + "start 0 1 0 1, ", "start 1 1 2", ""},
		// A later one.
		{filled, "start 3 1 0", "rank"}, {alone, "start 1 1 0", "rank"},
		// Behind a later one the first one is the next still.
		{filled + "start 3 1 0, ", "start 0 1 1 2", ""}, {alone + "start 1 1 0, ", "start 0 1 1 2", ""},
		{filled + "start 3 1 0, start 0 1 1 2, ", "start 2 1 3", "fill"},
		// One that is not among them, and would fit.
		{filled, "start 2 1 0", "fill"}, {both, "start 2 1 2", "fill"}, {last, "start 2 1 3", "fill"}, {filled, "start 4 1 0 1", "fill"}, {both, "start 4 1 2 3", "fill"},
		// Also the one that is to hold, and the one that holds.
		{filled, "start 1 1 0 1 2 3", "fill"}, {filled + "pin 1 1, ", "start 1 1 0 1 2 3", "fill"},
		// One that would not fit.
		{last, "start 4 1 2 3", "nodes rank"}, {last, "start 4 1 3", "nodes rank"}, {both, "start 1 1 2 3", "nodes rank"}, {both, "start 1 1 0 1 2 3", "nodes rank"}, {last, "start 4 1", "nodes rank"},
		// One that is not pending: it was started already, ended, or never was.
		{both, "start 0 1 0 1", "once rank"}, {both, "start 0 1 2 3", "once rank"}, {alone, "start 2 1 0", "once rank"}, {filled, "start 9 1 0", "once rank"}, {filled, "start " + huge + " 1 0", "once rank"}, {last, "start 5 1 3", "once rank"},
		{alone + "start 0 1 0 1, start 1 1 2, ", "start 1 1 3", "once rank"}, {alone, "start 3 1 9", "once rank"}, {alone, "start 2 1", "once rank"},
		// Nodes: too few, too many, none, taken, not of the machine.
		{filled, "start 0 1 0", "nodes"}, {filled, "start 0 1 0 1 2", "nodes"}, {filled, "start 0 1", "nodes"}, {filled, "start 0 1 3 4", "nodes"}, {filled, "start 0 1 0 " + huge, "nodes"}, {filled, "start 0 1 4 5", "nodes"},
		{both, "start 3 1 0", "nodes"}, {both, "start 3 1 1", "nodes"}, {both, "start 3 1 4", "nodes"}, {both, "start 3 1 256", "nodes"}, {alone, "start 0 1 0 64", "nodes"}, {alone, "start 0 1 0 1 2 3 4", "nodes"},
		// At.
		{filled, "start 0 0 0 1", "clock"}, {filled, "start 0 2 0 1", "clock"}, {filled, "start 0 " + huge + " 0 1", "clock"},
		// Together.
		{filled, "start 0 2 0", "nodes clock"}, {filled, "start 3 2 0", "clock rank"}, {filled, "start 3 1 4", "nodes rank"}, {filled, "start 3 2 4", "nodes clock rank"},
		{filled, "start 2 2 0", "clock fill"}, {filled, "start 2 1 0 1", "nodes fill"}, {filled, "start 2 2 4", "nodes clock fill"}, {both, "start 4 0 1 2", "nodes clock fill"},
		{filled, "start 9 2 0", "once clock rank"}, {both, "start 0 2 0 1", "once clock rank"}, {filled, "start " + huge + " " + huge + " " + huge, "once clock rank"},
		// The pass is not open: there was none, or it is closed.
		{"submit 0 0 1 1, ", "start 0 0 0", "rank"}, {"submit 0 0 1 1, tick 1, ", "start 0 1 0", "rank"}, {"", "start 0 0 0", "once rank"},
		{filled + "submit 5 1 1 1, ", "start 0 1 0 1", "rank"}, {filled + "tick 2, ", "start 0 2 0 1", "rank"}, {filled + "end 4 1 dropped, ", "start 0 1 0 1", "rank"}, {filled + "end 4 1 killed, ", "start 0 1 0 1", "rank"}, {filled + "decay 1, ", "start 0 1 0 1", "rank"},
		{filled + "decay 1, ", "start 2 1 0", "rank"}, {filled + "decay 1, ", "start 2 2 4", "nodes clock rank"},
		// It has no plan.
		{"submit 0 0 1 1, tick 1, pass 1, ", "start 0 1 0", "rank"}, {"submit 0 0 1 1, tick 1, pass 1 0 0, ", "start 0 1 0", "rank"}, {"submit 0 0 1 1, submit 1 0 1 1, tick 1, pass 1 0, ", "start 0 1 0", "rank"},
		{filled + "pass 1 0, ", "start 0 1 0 1", "rank"}, {filled + "pass 1 0, ", "start 2 1 0", "rank"},
		// It is anew, not wanted though, and in another rank.
		{filled + "pass 1 0 1 2 3 4, ", "start 0 1 0 1", ""}, {filled + "pass 1 1 0 2 3 4, ", "start 0 1 0 1", "fill"}, {filled + "pass 1 1 0 2 3 4, ", "start 1 1 0 1 2 3", ""},
		{both + "pass 1 1 2 3 4, ", "start 3 1 2", ""}, {both + "pass 1 4 2 3 1, ", "start 4 1 2 3", ""}, {filled + "pass 2 0 1 2 3 4, ", "start 0 1 0 1", ""},
	} {
		lastTells(t, example(), x.before+x.event, x.rules)
	}
}

// A pass with someone due has no plan.
func TestStartDue(t *testing.T) {
	due := "submit 0 0 1 1, submit 1 0 1 1, submit 2 0 4 1, tick 1, pass 1 0 1 2, start 0 1 0, start 1 1 1, pin 2 1, end 1 1 completed, submit 3 1 1 1, tick 2, "
	tells(t, example(), due+"pass 2 2 3, start 3 2 1, tick 3", "11 end, 12 rank, 13 end")
	tells(t, example(), due+"end 0 2 killed, pass 2 2 3, start 2 2 0 1 2 3, pin 3 2, tick 3", "")
	tells(t, example(), due+"pass 2 2 3, end 0 2 killed, start 2 2 0 1 2 3", "11 end, 13 rank")
	// Nor is anything missing behind it.
	tells(t, example(), due+"pass 2 2 3, end 0 2 killed, tick 3", "11 end")
	tells(t, example(), due+"pass 2 2 3, pin 3 2, end 0 2 killed, tick 3", "11 end, 12 pin")
	tells(t, example(), due+"pass 2 2, end 0 2 killed, tick 3", "11 end rank")
}

func TestPin(t *testing.T) {
	ready := filled + "start 0 1 0 1, start 3 1 2, "
	for _, x := range []struct{ before, event, rules string }{
		{ready, "pin 1 1", ""}, {ready, "pin 1 0", "clock"}, {ready, "pin 1 2", "clock"}, {ready, "pin 1 " + huge, "clock"},
		// There is a next start.
		{filled, "pin 1 1", "pin"}, {filled + "start 0 1 0 1, ", "pin 1 1", "pin"}, {filled + "start 3 1 0, ", "pin 1 1", "pin"},
		{filled + "start 3 1 0, start 0 1 1 2, ", "pin 1 1", ""}, {filled + "start 0 1 0, start 3 1 0 1, ", "pin 1 1", ""},
		// It is not the plan's Holder: it is pending, running, ended, none.
		{ready, "pin 2 1", "pin"}, {ready, "pin 4 1", "pin"}, {ready, "pin 0 1", "pin"}, {ready, "pin 9 1", "pin"}, {ready, "pin " + huge + " 1", "pin"}, {alone + "start 0 1 0 1, start 1 1 2, ", "pin 0 1", "pin"}, {alone + "start 0 1 0 1, start 1 1 2, ", "pin 2 1", "pin"},
		// It holds already.
		{ready + "pin 1 1, ", "pin 1 1", "pin"}, {ready + "pin 1 1, tick 2, pass 2 1 2 4, ", "pin 1 2", "pin"},
		// Another one holds: it is mended.
		{ready + "pin 2 1, ", "pin 1 1", ""}, {ready + "pin 1 1, pin 2 1, ", "pin 1 1", ""},
		// The pass is not open.
		{"", "pin 0 0", "pin"}, {"submit 0 0 4 1, ", "pin 0 0", "pin"}, {"submit 0 0 4 1, tick 1, ", "pin 0 1", "pin"},
		{ready + "submit 5 1 1 1, ", "pin 1 1", "pin"}, {ready + "tick 2, ", "pin 1 2", "pin"}, {ready + "end 0 1 stopped, ", "pin 1 1", "pin"}, {ready + "end 0 1 killed, ", "pin 1 1", "pin"}, {ready + "decay 1, ", "pin 1 1", "pin"},
		// It has no plan.
		{ready + "pass 1, ", "pin 1 1", "pin"}, {ready + "pass 1 1 2 4 4, ", "pin 1 1", "pin"}, {ready + "pass 1 1 2 4 0, ", "pin 1 1", "pin"},
		// It is anew.
		{ready + "pass 1 1 2 4, ", "pin 1 1", ""}, {ready + "pass 1 4 2 1, ", "pin 4 1", "pin"}, {ready + "pass 1 4 2 1, start 2 1 3, ", "pin 4 1", ""}, {ready + "pass 1 4 2 1, ", "pin 1 1", "pin"},
		// Together with the clock.
		{filled, "pin 1 2", "clock pin"}, {ready, "pin 2 0", "clock pin"}, {ready + "pin 1 1, ", "pin 1 2", "clock pin"}, {"", "pin 0 1", "clock pin"}, {ready + "pass 1, ", "pin 1 0", "clock pin"}, {"", "pin " + huge + " " + huge, "clock pin"},
	} {
		lastTells(t, example(), x.before+x.event, x.rules)
	}
}

// The events behind which no pass is open any more, of the stand that filled is.
var closing = map[string]string{
	"submit 5 1 1 1": "", "tick 2": "", "decay 1": "clock", "pass 1 0 1 2 3 4": "clock",
	"end 4 1 completed": "end", "end 4 1 killed": "end", "end 4 1 stopped": "end", "end 4 1 dropped": "",
}

// Ahead of all, behind an open pass that has a plan.
func TestAheadOfAll(t *testing.T) {
	for event, own := range closing {
		word := strings.Fields(event)[0]
		for before, others := range map[string]map[string]bool{
			"":                                        {"left": true, "pin": true},
			"start 0 1 0 1, ":                         {"left": true, "pin": true},
			"start 3 1 0, ":                           {"left": true, "pin": true},
			"pin 1 1, ":                               {"left": true},
			"start 0 1 0 1, pin 1 1, ":                {"left": true},
			"start 0 1 0 1, start 3 1 2, ":            {"pin": true},
			"start 0 1 0 1, start 3 1 2, pin 4 1, ":   {"pin": true},
			"start 0 1 0 1, start 3 1 2, pin 1 1, ":   {},
			"start 0 1 0, start 3 1 2, pin 1 1, ":     {},
			"start 0 1 0, start 3 1 9 10, pin 1 1, ":  {},
			"start 3 1 0, start 0 1 1 2, pin 1 1, ":   {},
			"start 0 1 0 1, start 3 1 2, pin 9 1, ":   {"pin": true},
			"start 1 1 0 1 2 3, ":                     {"left": true, "pin": true},
			"pin 1 1, start 1 1 0 1 2 3, ":            {"left": true, "pin": true},
			"start 0 1 0 1, start 3 1 2, pin 2 1, ":   {"pin": true},
			"start 9 1 0 1, start 3 1 2, pin 1 1, ":   {"left": true},
			"start 0 1 0 1, start 0 1 2 3, pin 1 1, ": {"left": true},
		} {
			mine := own
			if word == "pass" && strings.Contains(before, "start") {
				mine += " rank"
			}
			s := stand{trace: filled + before}
			s.holdsBy(t, example(), event, mine, others)
			// Once it is closed nothing is asked for again.
			if word != "pass" {
				again := stand{trace: filled + before + event + ", "}
				again.holdsBy(t, example(), "decay 1", "clock", map[string]bool{"clock": true})
			}
		}
	}
	// One that was to be started and is there no more cannot be missing: the pass of which it was is closed by that.
	tells(t, example(), filled+"end 0 1 dropped, tick 2", "7 pin left")
	// A holder that keeps on, and one that is started first of all.
	held := filled + "start 0 1 0 1, start 3 1 2, pin 1 1, end 0 1 completed, "
	tells(t, example(), held+"tick 2, pass 2 2 4 1, tick 3", "")
	tells(t, example(), held+"submit 5 1 1 4, tick 2, pass 2 2 4 1 5, tick 3", "14 left")
	tells(t, example(), held+"submit 5 1 1 4, tick 2, pass 2 2 4 1 5, start 5 2 0, tick 3", "")
	tells(t, example(), held+"end 3 1 completed, tick 2, pass 2 2 4 1, start 1 2 0 1 2 3, pin 2 2, tick 3", "")
	tells(t, example(), held+"end 3 1 completed, tick 2, pass 2 2 4 1, pin 2 2, tick 3", "14 pin, 15 left")
	tells(t, example(), held+"end 3 1 completed, tick 2, pass 2 2 4 1, start 1 2 0 1 2 3, tick 3", "15 pin")
	tells(t, example(), held+"end 3 1 completed, tick 2, pass 2 2 4 1, start 2 2 0, tick 3", "14 fill, 15 pin left")
}

// A pass that is open and has no plan asks for nothing.
func TestNoPlan(t *testing.T) {
	for event, own := range closing {
		for _, list := range []string{"", " 0", " 0 1 2 3", " 0 1 2 3 4 4", " 0 1 2 3 4 5", " 0 1 2 3 5", " 0 0 1 2 3", " " + huge} {
			s := stand{trace: strings.TrimSuffix(filled, "pass 1 0 1 2 3 4, ") + "pass 1" + list + ", "}
			s.holdsBy(t, example(), event, own, nil)
			s.trace += "pin 1 1, start 0 1 0 1, "
			if strings.HasPrefix(event, "pass") {
				own += " rank"
			}
			s.holdsBy(t, example(), event, own, nil)
			own = closing[event]
		}
	}
}

// What is wanted behind a tick, and up to when.
func TestWanted(t *testing.T) {
	tells(t, short(), "tick 1, tick 2, tick 3, tick 4, tick 5", "4 clock")
	tells(t, short(), "tick 1, tick 2, tick 3, tick 4, decay 4, tick 5, tick 6, tick 7, tick 8, decay 8, decay 8", "10 clock")
	// A pass of nobody is let be, once.
	tells(t, short(), "pass 0", "0 clock")
	tells(t, short(), "tick 1, pass 1, pass 1, tick 2, pass 2", "2 clock")
	tells(t, short(), "tick 1, submit 0 1 1 1, submit 1 1 1 1, pass 1 0 1", "3 clock")
	tells(t, short(), "submit 0 0 1 1, tick 1, submit 1 1 1 1, submit 2 1 1 1, pass 1 0 1 2, start 0 1 0", "2 left, 4 clock")
	tells(t, short(), "submit 0 0 1 1, tick 1, end 0 1 dropped, pass 1", "2 left, 3 clock")
	tells(t, short(), "submit 0 0 1 1, tick 1, end 0 1 completed, pass 1", "2 end left, 3 clock")
	tells(t, short(), "submit 0 0 1 1, tick 1, end 0 1 stopped, pass 1", "2 end left, 3 clock")
	tells(t, short(), "submit 0 0 1 1, tick 1, end 0 1 killed, pass 1, tick 2", "2 end")
	tells(t, short(), "submit 0 0 1 1, tick 1, tick 2, tick 3, pass 3 0", "2 left, 3 left")
	tells(t, short(), "submit 0 0 1 1, tick 1, start 0 1 0, tick 2, end 0 2 killed, pass 2", "2 rank")
	tells(t, short(), "submit 0 0 1 1, tick 1, pin 0 1, tick 2", "2 pin, 3 left")

	// A fade: told by a decay, or by a pass with a fault; else by each that ends the tick.
	four := "tick 1, tick 2, tick 3, tick 4, "
	for event, rules := range map[string]string{
		"submit 0 4 1 1": "clock", "tick 5": "clock", "end 0 4 completed": "once end clock", "end 0 4 stopped": "once end clock", "end 0 4 dropped": "once end clock", "pass 4": "clock",
	} {
		tells(t, short(), four+event, "4 "+rules)
		// It is not wanted any more.
		tells(t, short(), four+event+", decay 4", fmt.Sprintf("4 %s, 5 clock", rules))
		now := 4
		if event == "tick 5" {
			now = 5
		}
		tells(t, short(), four+event+fmt.Sprintf(", submit 0 %d 0 1", now), fmt.Sprintf("4 %s, 5 %s", rules, map[bool]string{true: "once nodes", false: "nodes"}[event == "submit 0 4 1 1"]))
	}
	for event, rules := range map[string]string{"end 0 4 killed": "once end", "start 0 4 0": "once rank", "pin 0 4": "pin"} {
		tells(t, short(), four+event+", decay 4, tick 5", "4 "+rules)
		tells(t, short(), four+event+", tick 5", "4 "+rules+", 5 clock")
		tells(t, short(), four+event+", pass 4, tick 5", "4 "+rules+", 5 clock")
	}
	// A decay leaves a pass wanted.
	tells(t, short(), "submit 0 0 1 1, tick 1, pass 1 0, start 0 1 0, tick 2, end 0 2 killed, tick 3, submit 1 3 1 1, tick 4, decay 4, tick 5", "10 left")
	tells(t, short(), "submit 0 0 1 1, tick 1, pass 1 0, start 0 1 0, tick 2, end 0 2 killed, tick 3, submit 1 3 1 1, tick 4, decay 4, pass 4 1, start 1 4 0, tick 5, end 1 5 killed", "")
	tells(t, short(), "tick 1, decay 1, decay 1, pass 1, tick 2", "1 clock, 2 clock")
	tells(t, short(), "decay 0, tick 1", "0 clock")

	// Each tick fades by a Period of 1.
	each := short()
	each.Period, each.Half = 1, 1
	tells(t, each, "tick 1, decay 1, tick 2, decay 2, pass 2, tick 3, pass 3, decay 3, tick 4, tick 5", "6 clock, 7 clock, 9 clock")
}

// By each of its states, an end hears of what is wanted.
func TestWantedByEnd(t *testing.T) {
	before := "submit 0 0 1 9, submit 1 0 4 9, tick 1, pass 1 0 1, start 0 1 0, pin 1 1, tick 2, pass 2 1, tick 3, pass 3 1, "
	for state, own := range map[string][2]string{"completed": {"", "end"}, "stopped": {"", "end"}, "dropped": {"end", ""}, "killed": {"end", "end"}} {
		for n, rules := range own {
			others, more := map[string]bool{"left": true, "clock": true}, map[string]bool{"left": true}
			if state == "killed" {
				others, more = nil, nil
			}
			event := fmt.Sprintf("end %d 4 %s", n, state)
			stand{trace: before + "tick 4, "}.holdsBy(t, short(), event, rules, others)
			stand{trace: before + "tick 4, decay 4, "}.holdsBy(t, short(), event, rules, more)
			stand{trace: before + "tick 4, decay 4, pass 4 1, "}.holdsBy(t, short(), event, rules, nil)
			stand{trace: before + "tick 4, pass 4 1, "}.holdsBy(t, short(), event, rules, nil)
			// Behind it: only a killed one leaves both wanted.
			behind := map[string]bool{"clock": state == "killed", "left": state == "killed" && n == 0}
			stand{trace: before + "tick 4, " + event + ", "}.holdsBy(t, short(), "tick 5", "", behind)
		}
	}
}

package judge

import (
	"fmt"
	"slices"
	"strconv"
	"strings"
	"testing"

	"backfill/api"
)

// What is so behind an event is asked by events behind it: one that is dropped was pending, one that is completed was running.

func TestThenSubmit(t *testing.T) {
	tells(t, example(), "submit 0 0 2 5, end 0 0 dropped", "")
	tells(t, example(), "submit 0 0 2 5, end 0 0 completed", "1 end")
	tells(t, example(), "submit 0 0 2 5, tick 1, pass 1 0, start 0 1 2 3, tick 2, tick 3, tick 4, tick 5, tick 6, end 0 6 killed", "")
	// With a fault of its time, or by what was left, it is there.
	tells(t, example(), "submit 0 3 2 5, end 0 0 dropped", "0 clock")
	tells(t, example(), "submit 0 3 2 5, submit 1 0 1 1", "0 clock")
	tells(t, example(), "submit 0 0 1 1, tick 1, submit 1 1 1 1, end 1 1 dropped", "2 left")
	due := "submit 0 0 1 1, tick 1, pass 1 0, start 0 1 0, tick 2, "
	tells(t, example(), due+"submit 1 2 1 1, end 0 2 killed, submit 2 2 1 1, end 1 2 dropped", "5 end")
	tells(t, example(), filled+"submit 5 1 1 1, end 5 1 dropped", "7 pin left")
	// One that is refused is no job.
	tells(t, example(), "submit 1 0 1 1, end 1 0 dropped", "0 once, 1 once end")
	tells(t, example(), "submit 1 0 1 1, end 0 0 dropped", "0 once, 1 once end")
	tells(t, example(), "submit 1 0 1 1, submit 1 0 1 1, submit 0 0 1 1, submit 1 0 1 1", "0 once, 1 once")
	tells(t, example(), "submit 0 0 1 1, submit 0 0 1 1, end 0 0 dropped, end 0 0 dropped", "1 once, 3 once end")
	tells(t, example(), "submit 0 0 4 10, submit 0 0 1 1, tick 1, pass 1 0, start 0 1 0 1 2 3, tick 2, tick 3", "1 once")
	for _, wrong := range []string{"5 1", "0 1", "1 0", "1 11", "0 0", "5 11"} {
		tells(t, example(), "submit 0 0 "+wrong+", end 0 0 dropped", "0 nodes, 1 once end")
		tells(t, example(), "submit 0 0 "+wrong+", submit 1 0 1 1, submit 0 0 1 1", "0 nodes, 1 once")
		tells(t, example(), "submit 0 0 "+wrong+", tick 1, pass 1, tick 2", "0 nodes")
		tells(t, example(), "submit 2 0 "+wrong+", submit 0 0 1 1", "0 once nodes")
	}
}

func TestThenTick(t *testing.T) {
	// The clock goes on by one, whatever is told.
	tells(t, example(), "tick 7, tick 2, submit 0 2 1 1", "0 clock")
	tells(t, example(), "tick 1, tick 1, tick 3, tick 3, tick 5", "1 clock, 3 clock")
	tells(t, example(), "tick 0, tick 0, tick "+huge+", tick 4", "0 clock, 1 clock, 2 clock")
	// A pass is wanted, also where it has a fault.
	tells(t, example(), "tick 7, pass 1, tick 2, pass 2, pass 2", "0 clock, 4 clock")
	tells(t, example(), "submit 0 0 1 1, tick 1, tick 2, pass 2 0, start 0 2 0", "2 left")
	// Who is due stays so.
	tells(t, example(), "submit 0 0 1 1, tick 1, pass 1 0, start 0 1 0, tick 2, tick 3, tick 4, end 0 4 killed, tick 5", "5 end, 6 end, 7 end")
	// A fade by the clock, not by what is told.
	tells(t, short(), "tick 1, tick 2, tick 3, tick 5, decay 4, tick 5", "3 clock")
	tells(t, short(), "tick 1, tick 2, tick 4, decay 3, decay 4, tick 4, decay 4", "2 clock, 3 clock, 4 clock")
}

// ran has 0 running on the nodes 0 and 1 (till 6), and 1 on 2 and 3 (till 4); 2 holds, for which all nodes are needed; 3 waits.
const ran = "submit 0 0 2 5, submit 1 0 2 3, submit 2 0 4 5, submit 3 0 2 9, tick 1, pass 1 0 1 2 3, start 0 1 0 1, start 1 1 2 3, pin 2 1, "

func TestThenEnd(t *testing.T) {
	states := []string{"completed", "killed", "stopped", "dropped"}
	for _, state := range states {
		for _, at := range []string{"1", "0", huge} {
			clock := map[bool]string{true: "", false: " clock"}[at == "1"]
			rules := func(first string) string { return "9 " + strings.TrimSpace(first+clock) }
			// It has ended, and its nodes are free: 2 is not among them, so 3 is to be pinned behind 2's drop only.
			own := map[string]string{"completed": "", "killed": "end", "stopped": "", "dropped": "end"}[state]
			event := "end 0 " + at + " " + state
			tells(t, example(), ran+event+", end 0 1 completed", rules(own)+", 10 once end")
			tells(t, example(), ran+event+", end 0 1 dropped", rules(own)+", 10 once end")
			tells(t, example(), ran+event+", end 1 1 completed, tick 2, pass 2 2 3, start 2 2 0 1 2 3, pin 3 2, tick 3", rules(own))
			tells(t, example(), ran+event+", tick 2, pass 2 2 3, start 3 2 0 1", rules(own)+", 12 fill")
			tells(t, example(), ran+event+", tick 2, pass 2 2 3, tick 3, pass 3 2 3, tick 4, end 1 4 killed, pass 4 2 3, start 2 4 0 1 2 3, pin 3 4, tick 5", rules(own))
			// A pending one: it holds no more.
			own = map[string]string{"completed": "end", "killed": "end", "stopped": "end", "dropped": ""}[state]
			event = "end 2 " + at + " " + state
			tells(t, example(), ran+event+", end 2 1 dropped", rules(own)+", 10 once end")
			tells(t, example(), ran+event+", tick 2, pass 2 3, pin 3 2, tick 3", rules(own))
			tells(t, example(), ran+event+", tick 2, pass 2 3, tick 3", rules(own)+", 12 pin")
			tells(t, example(), ran+event+", tick 2, pass 2 2 3", rules(own)+", 11 rank")
			// One that is pending and does not hold: who holds goes on.
			event = "end 3 " + at + " " + state
			tells(t, example(), ran+event+", tick 2, pass 2 2, tick 3, pass 3 2, pin 2 3", rules(own)+", 14 pin")
			// One that has ended, or never was: nothing is changed.
			tells(t, example(), ran+"end 0 1 completed, end 0 "+at+" "+state+", end 1 1 stopped, end 2 1 dropped, tick 2, pass 2 3, start 3 2 0 3, tick 3", "10 once end"+clock)
			tells(t, example(), ran+"end 4 "+at+" "+state+", submit 4 1 1 1, end 4 1 dropped", rules("once end"))
			tells(t, example(), ran+"end "+huge+" "+at+" "+state+", tick 2, pass 2 2 3, tick 3", rules("once end"))
		}
	}
	// Once who is due has ended, if by a fault, nobody is due.
	due := "submit 0 0 1 1, submit 1 0 1 1, tick 1, pass 1 0 1, start 0 1 0, start 1 1 1, tick 2, "
	for _, state := range states {
		own := map[bool]string{true: "", false: "7 end, "}[state == "killed"]
		tells(t, example(), due+"end 0 2 "+state+", end 1 2 killed, pass 2, tick 3", own+map[bool]string{true: "", false: "9 clock"}[state == "killed"])
		tells(t, example(), due+"end 0 2 "+state+", tick 3", own+"8 end")
	}
}

func TestThenDecay(t *testing.T) {
	four := "submit 0 0 1 3, tick 1, pass 1 0, start 0 1 0, tick 2, tick 3, tick 4, "
	tells(t, short(), four+"end 0 4 killed, decay 4, tick 5", "")
	tells(t, short(), four+"end 0 4 killed, decay 4, decay 4", "9 clock")
	tells(t, short(), four+"end 0 4 killed, decay 9, tick 5", "8 clock")
	tells(t, short(), four+"end 0 4 killed, decay 9, decay 4, tick 5", "8 clock, 9 clock")
	tells(t, short(), four+"decay 4, end 0 4 killed, tick 5", "7 end")
	tells(t, short(), four+"decay 5, end 0 4 killed, pass 4, tick 5", "7 end clock")
	// One that is not wanted changes nothing.
	tells(t, short(), "submit 0 0 1 3, tick 1, decay 1, pass 1 0, start 0 1 0, tick 2", "2 clock")
	tells(t, short(), "submit 0 0 1 3, tick 1, decay 1, tick 2", "2 clock, 3 left")
}

func TestThenPass(t *testing.T) {
	// Whatever is wrong with it, it is not wanted any more.
	tells(t, example(), "submit 0 0 1 3, tick 1, pass 1, tick 2, pass 2 0, start 0 2 0", "2 rank")
	tells(t, example(), "submit 0 0 1 3, tick 1, pass 1, pass 1 0, start 0 1 0, tick 2", "2 rank, 3 clock")
	tells(t, short(), "tick 1, tick 2, tick 3, tick 4, pass 4, decay 4, tick 5, pass 5", "4 clock, 5 clock")
	tells(t, short(), "tick 1, tick 2, tick 3, tick 4, pass 3 7, tick 5", "4 clock rank")
	// It has a plan, also where its time is wrong, or it is not wanted, or a fade is.
	tells(t, example(), "submit 0 0 1 3, tick 1, pass 9 0, start 0 1 0, tick 2", "2 clock")
	tells(t, example(), "submit 0 0 1 3, tick 1, pass 9 0, tick 2", "2 clock, 3 left")
	tells(t, example(), "submit 0 0 1 3, pass 0 0, start 0 0 0, tick 1", "1 clock")
	tells(t, example(), "submit 0 0 1 3, pass 0 0, tick 1", "1 clock, 2 left")
	tells(t, short(), "tick 1, tick 2, tick 3, submit 0 3 4 5, submit 1 3 4 5, tick 4, pass 4 1 0, start 1 4 0 1 2 3, pin 0 4, tick 5", "6 clock")
	tells(t, short(), "tick 1, tick 2, tick 3, submit 0 3 4 5, submit 1 3 4 5, tick 4, pass 4 1 0, start 1 4 0 1 2 3, tick 5", "6 clock, 8 pin")
	// A second one is judged by what is so then.
	tells(t, example(), "submit 0 0 1 3, tick 1, pass 1 0, start 0 1 0, pass 1, tick 2", "4 clock")
	// Its rank is the trace's own.
	for _, x := range []struct{ rank, does string }{
		{"0 1 2", "start 0 1 0 1 2, start 2 1 3, pin 1 1"}, {"1 0 2", "start 1 1 0 1 2, start 2 1 3, pin 0 1"}, {"2 1 0", "start 2 1 0, start 1 1 1 2 3, pin 0 1"}, {"1 2 0", "start 1 1 0 1 2, start 2 1 3, pin 0 1"},
	} {
		tells(t, example(), "submit 0 0 3 5, submit 1 0 3 5, submit 2 0 1 5, tick 1, pass 1 "+x.rank+", "+x.does+", tick 2", "")
	}
}

func TestThenStart(t *testing.T) {
	begun := "submit 0 0 2 2, submit 1 0 2 3, tick 1, pass 1 0 1, "
	// It runs from now on, whatever time is told, for its Limit.
	for _, at := range []string{"1", "0", "2", huge} {
		clock := map[bool]string{true: "", false: "4 clock"}[at == "1"]
		tells(t, example(), begun+"start 0 "+at+" 0 1, start 1 1 2 3, tick 2, tick 3, end 0 3 killed, tick 4, end 1 4 killed, tick 5", clock)
		tells(t, example(), begun+"start 0 "+at+" 0 1, start 1 1 2 3, tick 2, end 0 2 killed", strings.TrimPrefix(clock+", 7 end", ", "))
	}
	// Its nodes are those of List, though others would be free.
	tells(t, example(), begun+"start 0 1 1 3, start 1 1 0 2, tick 2", "")
	tells(t, example(), begun+"start 0 1 1 3, start 1 1 0 1, tick 2", "5 nodes")
	// In a wrong rank, or where no pass is, it runs, too.
	tells(t, example(), begun+"start 1 1 0 1, start 0 1 2 3, tick 2, tick 3, end 0 3 killed, tick 4, end 1 4 killed", "4 rank")
	tells(t, example(), "submit 0 0 2 2, start 0 0 0 1, tick 1, tick 2, end 0 2 killed, tick 3", "1 rank")
	tells(t, example(), filled+"start 2 1 0, start 0 1 1 2, start 3 1 3, pin 1 1, tick 2", "7 fill")
	tells(t, example(), filled+"start 2 1 0, start 0 1 0 1", "7 fill, 8 nodes")
	// On wrong nodes it counts as ended, and takes none.
	for _, list := range []string{"", " 0", " 0 1 2", " 0 4", " 4 5", " 0 " + huge} {
		tells(t, example(), begun+"start 0 1"+list+", end 0 1 completed", "4 nodes, 5 once end left")
		tells(t, example(), begun+"start 0 1"+list+", start 0 1 0 1, start 1 1 0 1, tick 2", "4 nodes, 5 once rank")
		tells(t, example(), begun+"start 0 1"+list+", start 1 1 0 1, tick 2, tick 3, tick 4, end 1 4 killed", "4 nodes")
		tells(t, example(), begun+"start 0 1"+list+", start 1 1 0 1, submit 2 1 2 1, tick 2, pass 2 2, start 2 2 2 3, tick 3, end 2 3 killed", "4 nodes")
	}
	tells(t, example(), begun+"start 0 1 0 1, start 1 1 1 2, submit 2 1 2 1, tick 2, pass 2 2, start 2 2 2 3, tick 3, end 0 3 killed, end 2 3 killed", "5 nodes")
	// One that is not pending is not changed: who runs keeps its nodes and its time.
	tells(t, example(), begun+"start 0 1 0 1, start 0 1 2 3, start 1 1 2 3, tick 2, start 0 2 0 1, tick 3, end 0 3 killed", "5 once rank, 8 once rank")
	tells(t, example(), begun+"start 0 1 0 1, start 1 1 2 3, end 0 1 stopped, start 0 1 0 1, submit 2 1 2 1, tick 2, pass 2 2, start 2 2 0 1, tick 3", "7 once rank")
	tells(t, example(), begun+"start 2 1 0 1, start 0 1 0 1, start 1 1 2 3, submit 2 1 1 1", "4 once rank")
	// If it held, nobody holds: also where it ended by that.
	held := ran + "end 0 1 completed, end 1 1 completed, tick 2, pass 2 3 2, "
	tells(t, example(), held+"start 2 2 0 1 2 3, pin 3 2, tick 3", "")
	tells(t, example(), held+"start 2 2 0 1 2, pin 3 2, tick 3, pass 3 3, start 3 3 0 1, tick 4", "13 nodes")
	tells(t, example(), held+"start 2 2 0 1 2, tick 3, pass 3 3, start 3 3 0 1, tick 4", "13 nodes, 14 pin")
	tells(t, example(), held+"start 3 2 0 1, tick 3, pass 3 2, tick 4", "13 fill, 14 pin left")
	// If another one did, it goes on.
	tells(t, example(), ran+"end 1 1 completed, submit 4 1 1 4, tick 2, pass 2 4 3 2, start 4 2 2, tick 3, pass 3 2 3, tick 4", "")
}

func TestThenPin(t *testing.T) {
	// Who is pending holds from then on: it comes first in the next pass.
	waiting := "submit 0 0 4 3, submit 1 0 3 3, submit 2 0 2 3, tick 1, pass 1 0 1 2, start 0 1 0 1 2 3, "
	first := "tick 2, pass 2 1 2, tick 3, pass 3 1 2, tick 4, end 0 4 killed, pass 4 1 2, "
	tells(t, example(), waiting+"pin 1 1, "+first+"start 1 4 0 1 2, pin 2 4, tick 5", "")
	tells(t, example(), waiting+"pin 2 1, "+first+"start 2 4 0 1, pin 1 4, tick 5", "6 pin, 7 pin")
	tells(t, example(), waiting+"pin 2 1, "+first+"start 1 4 0 1 2, pin 2 4, tick 5", "6 pin, 7 pin, 14 fill, 15 pin, 16 pin left")
	tells(t, example(), waiting+"pin 1 0, "+first+"start 1 4 0 1 2, pin 2 4, tick 5", "6 clock")
	// Outside of a pass, too.
	tells(t, example(), waiting+"pin 1 1, tick 2, pin 2 2, pass 2 1 2, tick 3, pass 3 1 2, tick 4, end 0 4 killed, pass 4 1 2, start 2 4 0 1, pin 1 4, tick 5", "8 pin")
	tells(t, example(), "submit 0 0 1 1, submit 1 0 4 1, pin 1 0, tick 1, pass 1 0 1, start 1 1 0 1 2 3, pin 0 1, tick 2", "2 pin")
	// One that runs, has ended, or never was, does not hold; who did goes on.
	for _, who := range []string{"0", "3", "9", huge} {
		tells(t, example(), waiting+"submit 3 1 1 1, end 3 1 dropped, pin "+who+" 1, tick 2, pass 2 1 2, pin 1 2, tick 3", "6 pin, 8 pin")
		tells(t, example(), waiting+"pin 1 1, submit 3 1 1 1, end 3 1 dropped, pin "+who+" 1, tick 2, pass 2 1 2, tick 3, pass 3 1 2, pin 1 3", "9 pin, 14 pin")
	}
	// It closes no pass.
	tells(t, example(), filled+"pin 1 1, start 0 1 0 1, pin 9 9, start 3 1 2, tick 2", "7 pin, 9 clock pin")
}

func TestQueue(t *testing.T) {
	for _, queue := range []int{1, 2, 8, 128} {
		c := example()
		c.Queue = queue
		var l []string
		submit := func(n, at int) { l = append(l, fmt.Sprintf("submit %d %d 1 5", n, at)) }
		for n := range queue {
			submit(n, 0)
		}
		tells(t, c, strings.Join(l, ", "), "")
		full := strings.Join(l, ", ") + ", "
		one := strconv.Itoa(queue)
		here := func(more string, faults string) { // places are counted from where the queue is full
			t.Helper()
			var want []string
			for s := range strings.SplitSeq(faults, ", ") {
				if s != "" {
					at, rules, _ := strings.Cut(s, " ")
					n, _ := strconv.Atoi(at)
					want = append(want, strconv.Itoa(queue+n)+" "+rules)
				}
			}
			tells(t, c, full+more, strings.Join(want, ", "))
		}
		here("submit "+one+" 0 1 1", "0 once")
		here("submit "+one+" 0 1 1, submit "+one+" 0 1 1, end 0 0 dropped, submit "+one+" 0 1 1", "0 once, 1 once")
		here("submit "+one+" 0 1 1, end "+one+" 0 dropped", "0 once, 1 once end")
		here("submit "+one+" 0 9 99", "0 once nodes")
		here("submit 0 0 1 1", "0 once")
		here("end 0 0 dropped, submit "+one+" 0 1 1, submit "+strconv.Itoa(queue+1)+" 0 1 1", "2 once")
		here("end 0 0 killed, submit "+one+" 0 1 1", "0 end")
		// Who runs does not count.
		var rank []string
		for n := range queue {
			rank = append(rank, strconv.Itoa(n))
		}
		// Four fit: who is left behind job 0 should have been started, and the fifth one pinned.
		left := "3 pin left, "
		switch queue {
		case 1:
			left = ""
		case 2:
			left = "3 left, "
		}
		passes := "tick 1, pass 1 " + strings.Join(rank, " ") + ", "
		two := fmt.Sprintf(", submit %d 1 1 1, submit %d 1 1 1", queue, queue+1)
		here(passes+"start 0 1 0"+two, left+"4 once")
		// Nor one that was started on wrong nodes.
		here(passes+"start 0 1"+two, "2 nodes, "+left+"4 once")
	}
}

func TestMaxJobs(t *testing.T) {
	var l []api.Event
	for n := range 4096 {
		l = append(l, api.Event{Kind: 1, Job: n, Nodes: 1, Limit: 1}, api.Event{Kind: 3, Job: n, Nodes: 6})
	}
	if faults := judged(t, example(), l); len(faults) != 0 {
		t.Error(faults)
	}
	last := len(l)
	for _, x := range []struct{ more, rules string }{
		{"submit 4096 0 1 1", "once"}, {"submit 4095 0 1 1", "once"}, {"submit 0 0 1 1", "once"}, {"submit 4096 0 0 1", "once nodes"}, {"submit 4096 1 1 1", "once clock"}, {"submit " + huge + " 0 1 1", "once"},
		{"end 4095 0 dropped", "once end"}, {"end 4096 0 dropped", "once end"}, {"tick 1", ""},
	} {
		faults := judged(t, example(), append(l[:last:last], read(t, x.more)...))
		if told := rulesAt(faults, last); told != x.rules || len(faults) != len(strings.Fields(x.rules)) {
			t.Errorf("%s: %v, not %s", x.more, faults, x.rules)
		}
	}
	// It is no job then, however often.
	faults := judged(t, example(), append(l[:last:last], read(t, "submit 4096 0 1 1, end 4096 0 dropped, submit 4096 0 1 1")...))
	if !slices.Equal(faults, []api.Fault{{At: last, Rule: 1}, {At: last + 1, Rule: 1}, {At: last + 1, Rule: 3}, {At: last + 2, Rule: 1}}) {
		t.Error(faults)
	}
	// One fewer.
	if faults := judged(t, example(), append(l[:last-2:last-2], read(t, "submit 4096 0 1 1, submit 4095 0 1 1, submit 4096 0 1 1")...)); !slices.Equal(faults, []api.Fault{{At: last - 2, Rule: 1}, {At: last, Rule: 1}}) {
		t.Error(faults)
	}
	// The last one runs.
	if faults := judged(t, example(), append(l[:last-1:last-1], read(t, "tick 1, pass 1 4095, start 4095 1 3, tick 2, end 4095 2 killed, submit 4096 2 1 1")...)); !slices.Equal(faults, []api.Fault{{At: last + 4, Rule: 1}}) {
		t.Error(faults)
	}
}

// Nodes up to the greatest machine's last one.
func TestNodes(t *testing.T) {
	for _, nodes := range []int{1, 2, 63, 64, 65, 128, 192, 255, 256} {
		c := example()
		c.Nodes = nodes
		all := make([]int, nodes)
		for n := range all {
			all[n] = n
		}
		before := read(t, fmt.Sprintf("submit 0 0 %d 5, submit 1 0 1 5, tick 1, pass 1 0 1", nodes))
		with := func(want string, l ...api.Event) {
			t.Helper()
			trace := append(slices.Clone(before), l...)
			faults := judged(t, c, trace)
			if !slices.Equal(faults, faultsOf(t, want)) || !slices.Equal(faults, plainAll(c, trace)) {
				t.Errorf("%d nodes, %s: %v, not %s", nodes, written(trace), faults, want)
			}
		}
		start := func(list []int) api.Event { return api.Event{Kind: 2, At: 1, List: list} }
		pin, tick := api.Event{Kind: 4, Job: 1, At: 1}, api.Event{Kind: 6, At: 2}
		with("", start(all), pin, tick)
		with("4 nodes", start(all[1:]), pin, tick)
		with("4 nodes", start(append(slices.Clone(all[1:]), nodes)), pin, tick)
		with("4 nodes", start(append(slices.Clone(all[:nodes-1]), 1<<62)), pin, tick)
		with("4 nodes", start(append(slices.Clone(all), nodes)), pin, tick)
		// Each one is taken, and is free again.
		for n := range all {
			one := api.Event{Kind: 2, Job: 1, At: 1, List: []int{n}}
			with("5 nodes rank", start(all), one)
			with("5 pin, 6 rank, 7 once end", start(all), api.Event{Kind: 3, At: 1, Nodes: 3}, one, api.Event{Kind: 3, At: 1, Nodes: 3})
		}
	}
}

// Numbers far beyond any job, node or time.
func TestFarNumbers(t *testing.T) {
	far := "submit N N N N, start N N N, end N N killed, end N N completed, end N N dropped, end N N stopped, pin N N, pass N N, tick N, decay N"
	want := "0 once nodes clock, 1 once clock rank, 2 once end clock, 3 once end clock, 4 once end clock, 5 once end clock, 6 clock pin, 7 clock rank, 8 clock, 9 clock"
	for _, n := range []string{huge, "9223372036854775806", "4611686018427387904", "1099511627776", "4294967296", "2147483648", "4096", "1024"} {
		tells(t, example(), strings.ReplaceAll(far, "N", n), want)
		// All else goes on behind it.
		tells(t, example(), strings.ReplaceAll(far, "N", n)+", submit 0 1 4 10, tick 2, pass 2 0, start 0 2 0 1 2 3, tick 3, end 0 3 completed", want)
	}
}

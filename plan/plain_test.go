package plan

import (
	"slices"
	"testing"

	"backfill/api"
	"backfill/audit"
	"backfill/core"
)

// plainLatest is P22.1 by states alone: who was pending ahead of a tick and runs behind it was started by it. As each start takes the lowest nodes that are free, the lowest of their nodes tells in which order those of one tick were started.
func plainLatest(s api.State, ticks int) ([]api.Rank, api.Errno) {
	if audit.Check(s) != 0 || ticks < 0 || ticks > 65536 {
		return nil, 220
	}
	x, _ := core.Load(s)
	var l []api.Rank
	was := x.State()
	for range ticks {
		if x.Do(api.Cmd{Kind: 4, Ticks: 1}).Code != 0 {
			return l, 0
		}
		is := x.State()
		starts := map[int]api.Rank{}
		for n, j := range is.Jobs {
			if was.Jobs[n].State == 1 && j.State != 1 {
				starts[j.Set[0]] = api.Rank{Job: n, Priority: j.Start}
			}
		}
		for node := range s.Config.Nodes {
			if r, there := starts[node]; there {
				l = append(l, r)
			}
		}
		was = is
	}
	return l, 0
}

// plainHolder is P22.2, going on tick by tick, and counting node by node.
func plainHolder(s api.State) (int, int, bool) {
	if audit.Check(s) != 0 || s.Holder == -1 {
		return 0, 0, false
	}
	for t := s.Now + 1; ; t++ {
		free := 0
		for node := range s.Config.Nodes {
			has := func(j api.Job) bool { return j.State == 2 && j.Start+j.Limit > t && slices.Contains(j.Set, node) }
			if !slices.ContainsFunc(s.Jobs, has) {
				free++
			}
		}
		if free >= s.Jobs[s.Holder].Nodes {
			return s.Holder, t, true
		}
	}
}

// latest is Latest of a state that is taken, held against the chapter's words taken plainly.
func latest(t *testing.T, s api.State, ticks int) []api.Rank {
	t.Helper()
	before := deepCopy(s)
	l, e := Latest(s, ticks)
	if e != 0 {
		t.Fatalf("%+v, %d: refused (%d)", s, ticks, e)
	}
	if !sameState(s, before) {
		t.Fatalf("%+v has become %+v", before, s)
	}
	if want, _ := plainLatest(s, ticks); !slices.Equal(l, want) {
		t.Fatalf("%+v, %d: %v, not %v", s, ticks, l, want)
	}
	return l
}

// holds is Holder, held against the chapter's words taken plainly.
func holds(t *testing.T, s api.State) (int, int, bool) {
	t.Helper()
	before := deepCopy(s)
	job, at, ok := Holder(s)
	if !sameState(s, before) {
		t.Fatalf("%+v has become %+v", before, s)
	}
	if j, a, o := plainHolder(s); j != job || a != at || o != ok {
		t.Fatalf("%+v: %d %d %v, not %d %d %v", s, job, at, ok, j, a, o)
	}
	return job, at, ok
}

// refused asks that both calls refuse a state, the one with its error, the other one by false.
func refused(t *testing.T, s api.State) {
	t.Helper()
	for _, ticks := range []int{-1, 0, 1, 100, 65536, 65537} {
		if l, e := Latest(s, ticks); e != 220 || len(l) != 0 {
			t.Errorf("%+v, %d: %v %d", s, ticks, l, e)
		}
	}
	if job, at, ok := Holder(s); ok || job != 0 || at != 0 {
		t.Errorf("%+v: %d %d %v", s, job, at, ok)
	}
}

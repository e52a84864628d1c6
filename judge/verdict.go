package judge

import (
	"cmp"
	"slices"

	"backfill/api"
)

// verdict is what is wrong with one event. A fault tells the event and the rule and nothing else, so that two findings are the same one if they are equal.
type verdict struct {
	at     int
	faults []api.Fault
}

// find takes up that a rule is broken, if it is. It may be found so by more than one thing, and is told once.
func (v *verdict) find(rule int, broken bool) {
	if broken && !v.has(rule) {
		v.faults = append(v.faults, v.fault(rule))
	}
}

func (v *verdict) has(rule int) bool { return slices.Contains(v.faults, v.fault(rule)) }

func (v *verdict) fault(rule int) api.Fault { return api.Fault{At: v.at, Rule: rule} }

// rising tells the faults in the rules' order, whatever order they were found in.
func (v *verdict) rising() []api.Fault {
	slices.SortFunc(v.faults, func(a, b api.Fault) int { return cmp.Compare(a.Rule, b.Rule) })
	return v.faults
}

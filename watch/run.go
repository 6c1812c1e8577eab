package watch

import (
	"lull/api"
	"lull/pattern"
)

// run is a try at a match.
type run struct {
	deadline int
	taken    []api.Event
	// left are the steps that are not done yet: a piece of the pattern's, only read.
	left []pattern.Step
}

// fate is what becomes of a run.
type fate int

const (
	goesOn fate = iota
	fails
	matches
)

// begin makes a run of an event that matches the pattern's first step.
func begin(p pattern.Pattern, event api.Event) run {
	return run{deadline: event.Time + p.Within, taken: []api.Event{event}, left: p.Steps[1:]}
}

// see shows an event to the run: it meets the steps up to the next that must come.
func (r *run) see(event api.Event) fate {
	for at, step := range r.left {
		switch step.(type) {
		case pattern.MustNot:
			if step.Matches(event) {
				return fails
			}
		case pattern.Must:
			if step.Matches(event) {
				r.taken = append(r.taken, event)
				r.left = r.left[at+1:]
			}
			return r.atOnce()
		}
	}
	return goesOn
}

// atOnce is the run's fate ahead of its deadline.
func (r *run) atOnce() fate {
	if len(r.left) == 0 {
		return matches
	}
	return goesOn
}

// atDeadline is the run's fate when its deadline is over: what did not come by then is certain.
func (r *run) atDeadline() fate {
	for _, step := range r.left {
		switch step.(type) {
		case pattern.Must:
			return fails
		}
	}
	return matches
}

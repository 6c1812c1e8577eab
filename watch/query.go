// Package watch looks for patterns in events, in the order of time.
package watch

import (
	"slices"

	"lull/api"
	"lull/pattern"
)

// Query is a pattern that is looked for.
type Query struct {
	number  int
	pattern pattern.Pattern
	// runs stand in the order in which they began; that of their deadlines is the same, since all have the same length.
	runs []run
	// found are the matches that wait, in the order in which they came.
	found []api.Match
}

// NewQuery makes a query that has seen nothing yet.
func NewQuery(number int, p pattern.Pattern) *Query {
	return &Query{number: number, pattern: p}
}

// Number tells the query's number.
func (q *Query) Number() int { return q.number }

// Runs tells how many runs there are.
func (q *Query) Runs() int { return len(q.runs) }

// Waiting tells how many matches wait.
func (q *Query) Waiting() int { return len(q.found) }

// Take gives the first match that waits, if there is one; it waits no longer.
func (q *Query) Take() (api.Match, bool) {
	if len(q.found) == 0 {
		return api.Match{}, false
	}
	first := q.found[0]
	// The events belong to the one who takes the match: nothing of them is kept.
	q.found[0] = api.Match{}
	q.found = q.found[1:]
	return first, true
}

// show shows a released event to the runs that there are; then it may begin one.
func (q *Query) show(event api.Event) {
	on := q.runs[:0]
	for _, r := range q.runs {
		switch r.see(event) {
		case goesOn:
			on = append(on, r)
		case matches:
			q.tell(r, event.Time)
		}
	}
	clear(q.runs[len(on):])
	q.runs = on
	if q.pattern.Steps[0].Matches(event) {
		q.add(begin(q.pattern, event))
	}
}

// add takes in a run that just began; a pattern of one step is a match by then.
func (q *Query) add(r run) {
	if r.atOnce() == matches {
		q.tell(r, r.taken[0].Time)
		return
	}
	q.runs = append(q.runs, r)
}

// end brings the runs of that deadline to their end: they are the first ones, since no earlier deadline is left.
func (q *Query) end(deadline int) {
	over := 0
	for over < len(q.runs) && q.runs[over].deadline == deadline {
		if r := q.runs[over]; r.atDeadline() == matches {
			q.tell(r, deadline)
		}
		over++
	}
	q.runs = slices.Delete(q.runs, 0, over)
}

// tell makes a match of a run that is over; it hands the events on, since the run needs them no longer.
func (q *Query) tell(r run, at int) {
	q.found = append(q.found, api.Match{Query: q.number, Close: at, Events: r.taken})
}

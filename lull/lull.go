// Package lull: patterns of events, and of their absence, told as soon as they are certain: see DOC.md.
package lull

import (
	"slices"

	"lull/api"
	"lull/pattern"
	"lull/watch"
)

// lastMark is the greatest mark: above every deadline, so that a source can tell that all is over.
const lastMark = 2 * api.MaxTime

// Engine looks for patterns.
type Engine struct {
	// self is the Engine itself, if New made it: a copy would share memory with it, so it is to be known as one that New did not make.
	self *Engine
	// marks are those of the sources, by their numbers.
	marks  []int
	buffer watch.Buffer
	// queries stand in the order of their numbers.
	queries []*watch.Query
	next    int
	turn    turn
}

// New makes an Engine (P3).
func New(sources int) (*Engine, api.Errno) {
	if !mayHave(sources) {
		return nil, api.ErrArg
	}
	e := &Engine{marks: make([]int, sources)}
	e.self = e
	return e, api.OK
}

// mayHave tells whether there may be so many sources.
func mayHave(sources int) bool {
	return sources >= 1 && sources <= api.MaxSources
}

func (e *Engine) made() bool {
	return e != nil && e.self == e
}

// Register takes patterns in (P4).
func (e *Engine) Register(patterns ...string) ([]int, api.Errno, int) {
	if !e.made() {
		return nil, api.ErrClosed, 0
	}
	parsed, place, ok := parseAll(patterns)
	if !ok {
		return nil, api.ErrText, place
	}
	if len(e.queries)+len(parsed) > api.MaxQueries {
		return nil, api.ErrMany, 0
	}
	return e.add(parsed), api.OK, 0
}

// parseAll reads texts; if one is no pattern, it tells the place in the first such.
func parseAll(texts []string) ([]pattern.Pattern, int, bool) {
	var all []pattern.Pattern
	for _, text := range texts {
		p, place, ok := pattern.Parse(text)
		if !ok {
			return nil, place, false
		}
		all = append(all, p)
	}
	return all, 0, true
}

// add makes a query of each pattern, and tells their numbers.
func (e *Engine) add(patterns []pattern.Pattern) []int {
	var numbers []int
	for _, p := range patterns {
		e.queries = append(e.queries, watch.NewQuery(e.next, p))
		numbers = append(numbers, e.next)
		e.next++
	}
	return numbers
}

// Remove takes a query away (P5).
func (e *Engine) Remove(query int) api.Errno {
	if !e.made() {
		return api.ErrClosed
	}
	at := e.find(query)
	if at < 0 {
		return api.ErrNone
	}
	e.queries = slices.Delete(e.queries, at, at+1)
	return api.OK
}

// find tells where the query of that number stands; -1, if there is none.
func (e *Engine) find(number int) int {
	return slices.IndexFunc(e.queries, func(q *watch.Query) bool { return q.Number() == number })
}

// Offer takes events (P6).
func (e *Engine) Offer(events ...api.Event) (int, api.Errno) {
	if !e.made() {
		return 0, api.ErrClosed
	}
	for taken, event := range events {
		if errno := e.take(event); errno != api.OK {
			return taken, errno
		}
	}
	return len(events), api.OK
}

// take lets an event wait, unless it is refused.
func (e *Engine) take(event api.Event) api.Errno {
	switch {
	case !proper(event, len(e.marks)):
		return api.ErrArg
	case event.Time < e.Watermark():
		return api.ErrLate
	case e.buffer.Len() >= api.MaxBuffer:
		return api.ErrFull
	}
	e.buffer.Add(event)
	return api.OK
}

func proper(event api.Event, sources int) bool {
	return event.Source >= 0 && event.Source < sources &&
		event.Time >= 0 && event.Time <= api.MaxTime &&
		event.Kind >= 'a' && event.Kind <= 'z' &&
		event.Value >= -api.MaxValue && event.Value <= api.MaxValue
}

// Beat sets a source's mark (P7).
func (e *Engine) Beat(source int, time int) api.Errno {
	switch {
	case !e.made():
		return api.ErrClosed
	case source < 0 || source >= len(e.marks) || time < 0 || time > lastMark:
		return api.ErrArg
	case time < e.marks[source]:
		return api.ErrLate
	}
	e.marks[source] = time
	e.buffer.Pass(e.Watermark(), e.queries)
	return api.OK
}

// Watermark tells the least mark (P7).
func (e *Engine) Watermark() int {
	if !e.made() {
		return 0
	}
	return slices.Min(e.marks)
}

// Runs tells how many runs a query has (P8).
func (e *Engine) Runs(query int) int {
	if q := e.query(query); q != nil {
		return q.Runs()
	}
	return 0
}

// Waiting tells how many of its matches wait (P8).
func (e *Engine) Waiting(query int) int {
	if q := e.query(query); q != nil {
		return q.Waiting()
	}
	return 0
}

// query tells the query of that number; nil, if there is none.
func (e *Engine) query(number int) *watch.Query {
	if !e.made() {
		return nil
	}
	if at := e.find(number); at >= 0 {
		return e.queries[at]
	}
	return nil
}

// Drain gives matches that wait (P8).
func (e *Engine) Drain(n int) []api.Match {
	if !e.made() {
		return nil
	}
	var drained []api.Match
	for len(drained) < n {
		match, ok := e.serve()
		if !ok {
			break
		}
		drained = append(drained, match)
	}
	return drained
}

// Batch looks for patterns in events that are all there (P9).
func Batch(sources int, patterns []string, events []api.Event) ([][]api.Match, api.Errno) {
	parsed, errno := readBatch(sources, patterns, events)
	if errno != api.OK {
		return nil, errno
	}
	return gather(searchAll(parsed, events)), api.OK
}

// Package lull: patterns of events, and of their absence, told as soon as they are certain: see DOC.md.
package lull

import (
	"slices"

	"lull/api"
	"lull/pattern"
)

// Engine looks for patterns.
type Engine struct {
	// self is the Engine itself, if New made it: a copy would share memory with it, so it is to be known as one that New did not make.
	self    *Engine
	sources int
	// queries stand in the order of their numbers.
	queries []query
	next    int
}

type query struct {
	number  int
	pattern pattern.Pattern
}

// New makes an Engine (P3).
func New(sources int) (*Engine, api.Errno) {
	if sources < 1 || sources > api.MaxSources {
		return nil, api.ErrArg
	}
	e := &Engine{sources: sources}
	e.self = e
	return e, api.OK
}

func (e *Engine) made() bool {
	return e != nil && e.self == e
}

// Register takes patterns in (P4).
func (e *Engine) Register(patterns ...string) ([]int, api.Errno, int) {
	if !e.made() {
		return nil, api.ErrClosed, 0
	}
	parsed, place, ok := parseAll(patterns)
	if !ok {
		return nil, api.ErrText, place
	}
	if len(e.queries)+len(parsed) > api.MaxQueries {
		return nil, api.ErrMany, 0
	}
	return e.add(parsed), api.OK, 0
}

// parseAll reads texts; if one is no pattern, it tells the place in the first such.
func parseAll(texts []string) ([]pattern.Pattern, int, bool) {
	var all []pattern.Pattern
	for _, text := range texts {
		p, place, ok := pattern.Parse(text)
		if !ok {
			return nil, place, false
		}
		all = append(all, p)
	}
	return all, 0, true
}

// add makes a query of each pattern, and tells their numbers.
func (e *Engine) add(patterns []pattern.Pattern) []int {
	var numbers []int
	for _, p := range patterns {
		e.queries = append(e.queries, query{number: e.next, pattern: p})
		numbers = append(numbers, e.next)
		e.next++
	}
	return numbers
}

// Remove takes a query away (P5).
func (e *Engine) Remove(query int) api.Errno {
	if !e.made() {
		return api.ErrClosed
	}
	at := e.find(query)
	if at < 0 {
		return api.ErrNone
	}
	e.queries = slices.Delete(e.queries, at, at+1)
	return api.OK
}

// find tells where the query of that number stands; -1, if there is none.
func (e *Engine) find(number int) int {
	return slices.IndexFunc(e.queries, func(q query) bool { return q.number == number })
}

// Offer takes events (P6).
func (e *Engine) Offer(events ...api.Event) (int, api.Errno) {
	if !e.made() {
		return 0, api.ErrClosed
	}
	return 0, api.OK
}

// Beat sets a source's mark (P7).
func (e *Engine) Beat(source int, time int) api.Errno {
	if !e.made() {
		return api.ErrClosed
	}
	return api.OK
}

// Watermark tells the least mark (P7).
func (e *Engine) Watermark() int { return 0 }

// Runs tells how many runs a query has (P8).
func (e *Engine) Runs(query int) int { return 0 }

// Waiting tells how many of its matches wait (P8).
func (e *Engine) Waiting(query int) int { return 0 }

// Drain gives matches that wait (P8).
func (e *Engine) Drain(n int) []api.Match { return nil }

// Batch looks for patterns in events that are all there (P9).
func Batch(sources int, patterns []string, events []api.Event) ([][]api.Match, api.Errno) {
	return nil, api.OK
}

package lull

import (
	"lull/api"
	"lull/watch"
)

// turn is whose turn it was last: the number of the query, which may be gone by now, and how many times in a row it was served. At first that is the least query, no time: so it goes ahead of the others.
type turn struct {
	query int
	inRow int
}

// serve takes the first match of the query whose turn it is; false, if none waits.
func (e *Engine) serve() (api.Match, bool) {
	if last := e.query(e.turn.query); last != nil && e.turn.inRow < api.Quantum {
		if match, ok := last.Take(); ok {
			e.turn.inRow++
			return match, true
		}
	}
	for _, q := range e.behind(e.turn.query) {
		if match, ok := q.Take(); ok {
			e.turn = turn{query: q.Number(), inRow: 1}
			return match, true
		}
	}
	return api.Match{}, false
}

// behind tells all queries, those behind the number first, then from the least on.
func (e *Engine) behind(number int) []*watch.Query {
	var greater, others []*watch.Query
	for _, q := range e.queries {
		if q.Number() > number {
			greater = append(greater, q)
		} else {
			others = append(others, q)
		}
	}
	return append(greater, others...)
}

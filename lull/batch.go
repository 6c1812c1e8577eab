package lull

import (
	"lull/api"
	"lull/pattern"
	"lull/watch"
)

// readBatch reads the patterns that Batch is given; of several errors it tells the one that P9 names first.
func readBatch(sources int, texts []string, events []api.Event) ([]pattern.Pattern, api.Errno) {
	if !mayHave(sources) {
		return nil, api.ErrArg
	}
	parsed, _, ok := parseAll(texts)
	switch {
	case !ok:
		return nil, api.ErrText
	case len(parsed) > api.MaxQueries:
		return nil, api.ErrMany
	case len(events) > api.MaxBuffer || !allProper(events, sources):
		return nil, api.ErrArg
	}
	return parsed, api.OK
}

func allProper(events []api.Event, sources int) bool {
	for _, event := range events {
		if !proper(event, sources) {
			return false
		}
	}
	return true
}

// searchAll begins to look for all patterns at the same time, each by itself, and tells the channels on which their matches come.
func searchAll(patterns []pattern.Pattern, events []api.Event) []<-chan api.Match {
	var all []<-chan api.Match
	for number, p := range patterns {
		found := make(chan api.Match)
		go search(number, p, events, found)
		all = append(all, found)
	}
	return all
}

// search sends the matches of one pattern, then closes the channel. It has a buffer of its own, since others read the events at the same time.
func search(number int, p pattern.Pattern, events []api.Event, found chan<- api.Match) {
	defer close(found)
	var buffer watch.Buffer
	for _, event := range events {
		buffer.Add(event)
	}
	q := watch.NewQuery(number, p)
	buffer.Pass(lastMark, []*watch.Query{q})
	for match, ok := q.Take(); ok; match, ok = q.Take() {
		found <- match
	}
}

// gather takes all that is found, one pattern's matches behind the other's. Each channel is read till it is closed, so that no search is left over.
func gather(all []<-chan api.Match) [][]api.Match {
	lists := make([][]api.Match, len(all))
	for number, found := range all {
		for match := range found {
			lists[number] = append(lists[number], match)
		}
	}
	return lists
}

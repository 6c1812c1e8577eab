package watch

import (
	"cmp"
	"slices"
	"sort"

	"lull/api"
)

// Buffer is the events that wait for their release.
type Buffer struct {
	// events stand in the order in which they are to be released.
	events []api.Event
}

// Len tells how many events wait.
func (b *Buffer) Len() int { return len(b.events) }

// Add takes an event in, behind those of its time and source that came ahead of it.
func (b *Buffer) Add(event api.Event) {
	at := sort.Search(len(b.events), func(i int) bool { return order(b.events[i], event) > 0 })
	b.events = slices.Insert(b.events, at, event)
}

// order is below 0, if x is to be released ahead of y, and 0, if what came first is.
func order(x, y api.Event) int {
	return cmp.Or(cmp.Compare(x.Time, y.Time), cmp.Compare(x.Source, y.Source))
}

func (b *Buffer) dropFirst() {
	b.events = slices.Delete(b.events, 0, 1)
}

// Pass does what is to be done at the times below the watermark. The queries stand in the order of their numbers.
func (b *Buffer) Pass(watermark int, queries []*Query) {
	for d := b.first(queries); d != nil && d.time() < watermark; d = b.first(queries) {
		d.do(b, queries)
	}
}

// first tells what is to be done first, nil, if nothing is. What is done may begin runs, so their deadlines are asked for anew each time.
func (b *Buffer) first(queries []*Query) deed {
	var d deed
	if len(b.events) > 0 {
		d = release{b.events[0]}
	}
	for _, q := range queries {
		// An event goes ahead of the deadlines of its own time, so a deadline must be below it.
		if len(q.runs) > 0 && (d == nil || q.runs[0].deadline < d.time()) {
			d = deadline{q.runs[0].deadline}
		}
	}
	return d
}

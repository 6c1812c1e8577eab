package watch

import "lull/api"

// deed is what is to be done at a time: an event that is released, or a deadline that is over.
type deed interface {
	time() int
	do(b *Buffer, queries []*Query)
}

type release struct{ event api.Event }

func (r release) time() int { return r.event.Time }

func (r release) do(b *Buffer, queries []*Query) {
	b.dropFirst()
	for _, q := range queries {
		q.show(r.event)
	}
}

type deadline struct{ at int }

func (d deadline) time() int { return d.at }

func (d deadline) do(_ *Buffer, queries []*Query) {
	for _, q := range queries {
		q.end(d.at)
	}
}

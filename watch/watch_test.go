package watch

import (
	"slices"
	"testing"

	"lull/api"
	"lull/pattern"
)

func newQuery(t *testing.T, text string) *Query {
	t.Helper()
	p, place, ok := pattern.Parse(text)
	if !ok {
		t.Fatalf("%q is no pattern: %d", text, place)
	}
	return NewQuery(7, p)
}

func event(time, source int, kind byte) api.Event {
	return api.Event{Time: time, Source: source, Kind: kind}
}

func TestBufferKeepsTheOrderOfRelease(t *testing.T) {
	want := []api.Event{event(1, 1, 'c'), event(2, 0, 'z'), event(2, 0, 'a'), event(2, 1, 'b'), event(2, 1, 'a'), event(3, 0, 'a')}
	var b Buffer
	for _, i := range []int{3, 5, 1, 0, 2, 4} {
		b.Add(want[i])
	}
	if b.Len() != len(want) || !slices.Equal(b.events, want) {
		t.Errorf("%v wait, want %v", b.events, want)
	}
}

// What is first is an event or a deadline, and of one time the event.
func TestFirstDeed(t *testing.T) {
	var b Buffer
	one, two := newQuery(t, "a b within 5"), newQuery(t, "a b within 4")
	queries := []*Query{one, two}
	wantFirst := func(want deed) {
		t.Helper()
		if got := b.first(queries); got != want {
			t.Errorf("first is %v, want %v", got, want)
		}
	}
	wantFirst(nil)
	b.Add(event(1, 0, 'a'))
	wantFirst(release{event(1, 0, 'a')})
	b.Pass(2, queries)
	wantFirst(deadline{5})
	b.Add(event(6, 0, 'c'))
	wantFirst(deadline{5})
	b.Add(event(5, 0, 'c'))
	wantFirst(release{event(5, 0, 'c')})
	b.Pass(6, queries)
	wantFirst(release{event(6, 0, 'c')})
	if one.Runs() != 1 || two.Runs() != 0 {
		t.Errorf("%d and %d runs, want 1 and 0", one.Runs(), two.Runs())
	}
	b.Pass(7, queries)
	wantFirst(nil)
}

// Events that were handed out, or whose run is over, are not held on to.
func TestNothingIsKeptOfWhatIsOver(t *testing.T) {
	var b Buffer
	q := newQuery(t, "a !c b within 5")
	for _, e := range []api.Event{event(1, 0, 'a'), event(2, 0, 'a'), event(3, 0, 'b'), event(4, 0, 'a'), event(5, 0, 'c'), event(6, 0, 'a')} {
		b.Add(e)
	}
	b.Pass(4, []*Query{q})
	all := q.found
	for range 2 {
		if _, ok := q.Take(); !ok {
			t.Error("no match waits")
		}
	}
	if match, ok := q.Take(); ok || match.Events != nil {
		t.Errorf("a third match: %v", match)
	}
	for _, m := range all {
		if m.Events != nil {
			t.Errorf("a match that was taken is kept: %v", m)
		}
	}
	b.Pass(99, []*Query{q})
	for _, r := range q.runs[:cap(q.runs)] {
		if r.taken != nil {
			t.Errorf("a run that is over is kept: %v", r)
		}
	}
}

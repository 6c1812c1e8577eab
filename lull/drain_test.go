package lull_test

import (
	"math"
	"strings"
	"testing"

	"lull/api"
	"lull/lull"
)

// served is an Engine whose query i looks for its own letter, with so many matches that wait.
func served(t *testing.T, counts ...int) *lull.Engine {
	t.Helper()
	e := engineOf(t, 1)
	for i, count := range counts {
		wantRegister(t, e, []int{i}, api.OK, 0, letter(i)+" within 0")
		addMatches(t, e, i, count)
	}
	return e
}

func letter(query int) string { return string(rune('a' + query)) }

// addMatches lets so many more matches wait for a query of served.
func addMatches(t *testing.T, e *lull.Engine, query, count int) {
	t.Helper()
	for range count {
		time := e.Watermark()
		wantOffer(t, e, 1, api.OK, api.Event{Time: time, Kind: letter(query)[0]})
		beat(t, e, 0, time+1)
	}
}

func TestP8ExampleOfTheDocument(t *testing.T) {
	wantServed(t, served(t, 3, 2), 9, 0, 0, 1, 1, 0)
}

func TestP8Served(t *testing.T) {
	wantServed(t, served(t), 9)
	wantServed(t, served(t, 0, 0), 9)
	wantServed(t, served(t, 5), 9, 0, 0, 0, 0, 0)
	wantServed(t, served(t, 0, 5), 9, 1, 1, 1, 1, 1)
	wantServed(t, served(t, 1, 1, 1), 9, 0, 1, 2)
	wantServed(t, served(t, 3, 0, 3, 1), 9, 0, 0, 2, 2, 3, 0, 2)
	wantServed(t, served(t, 5, 1), 9, 0, 0, 1, 0, 0, 0)
	wantServed(t, served(t, 1, 5), 9, 0, 1, 1, 1, 1, 1)
	wantServed(t, served(t, 2, 2, 2, 2, 2, 2, 2, 2, 2, 3), 99, 0, 0, 1, 1, 2, 2, 3, 3, 4, 4, 5, 5, 6, 6, 7, 7, 8, 8, 9, 9, 9)
}

// The row goes on from one Drain to the next.
func TestP8TurnsGoOnBetweenDrains(t *testing.T) {
	e := served(t, 4, 4)
	for _, want := range []int{0, 0, 1, 1, 0, 0, 1, 1} {
		wantServed(t, e, 1, want)
	}
	wantServed(t, e, 1)
	addMatches(t, e, 0, 1)
	addMatches(t, e, 1, 1)
	wantServed(t, e, 9, 0, 1)
	// Query 1 was served once in a row, and has one that waits again: it is its turn still.
	addMatches(t, e, 0, 1)
	addMatches(t, e, 1, 2)
	wantServed(t, e, 9, 1, 0, 1)
}

// A query that is served alone begins a new row behind each Quantum, so another that comes to have matches waits for the rest of that row alone.
func TestP8RowBeginsAnew(t *testing.T) {
	for alone := 1; alone <= 6; alone++ {
		e := served(t, alone+3, 0)
		if got := len(e.Drain(alone)); got != alone {
			t.Fatalf("P8: Drain(%d) told %d", alone, got)
		}
		addMatches(t, e, 1, 1)
		if alone%api.Quantum == 0 {
			wantServed(t, e, 9, 1, 0, 0, 0)
		} else {
			wantServed(t, e, 9, 0, 1, 0, 0)
		}
	}
}

// A Drain that finds nothing serves nobody: whose turn it is stays as it was.
func TestP8EmptyDrainChangesNoTurn(t *testing.T) {
	e := served(t, 2, 0)
	wantServed(t, e, 2, 0, 0)
	wantServed(t, e, 9)
	addMatches(t, e, 0, 1)
	addMatches(t, e, 1, 1)
	wantServed(t, e, 0)
	wantServed(t, e, 9, 1, 0)
}

func TestP8ServedLastIsGone(t *testing.T) {
	// In the midst of its row: those behind it come next, not the least.
	e := served(t, 3, 3, 3)
	wantServed(t, e, 3, 0, 0, 1)
	wantRemove(t, e, 1, api.OK)
	wantServed(t, e, 9, 2, 2, 0, 2)

	// The greatest: from the least on.
	e = served(t, 3, 3, 3)
	wantServed(t, e, 5, 0, 0, 1, 1, 2)
	wantRemove(t, e, 2, api.OK)
	wantServed(t, e, 9, 0, 1)

	// All are gone, and new ones come: they stand behind it.
	e = served(t, 1, 1)
	wantServed(t, e, 1, 0)
	wantRemove(t, e, 0, api.OK)
	wantRemove(t, e, 1, api.OK)
	wantServed(t, e, 9)
	wantRegister(t, e, []int{2, 3}, api.OK, 0, "c within 0", "d within 0")
	addMatches(t, e, 3, 3)
	addMatches(t, e, 2, 1)
	wantServed(t, e, 9, 2, 3, 3, 3)

	// Another is gone: that changes nobody's turn.
	e = served(t, 3, 3, 3)
	wantServed(t, e, 3, 0, 0, 1)
	wantRemove(t, e, 0, api.OK)
	wantServed(t, e, 9, 1, 2, 2, 1, 2)
}

func TestP8NewQueryBehindTheLast(t *testing.T) {
	e := served(t, 2, 2)
	wantServed(t, e, 4, 0, 0, 1, 1)
	wantRegister(t, e, []int{2}, api.OK, 0, "c within 0")
	addMatches(t, e, 0, 1)
	addMatches(t, e, 2, 1)
	wantServed(t, e, 9, 2, 0)
}

func TestP8DrainCounts(t *testing.T) {
	e := served(t, 3, 2)
	for _, n := range []int{0, -1, math.MinInt} {
		wantServed(t, e, n)
	}
	wantWaiting(t, e, 0, 3)
	wantServed(t, e, 2, 0, 0)
	wantWaiting(t, e, 0, 1)
	wantWaiting(t, e, 1, 2)
	wantServed(t, e, math.MaxInt, 1, 1, 0)
	wantServed(t, e, math.MaxInt)
}

func TestP8NoSuchQuery(t *testing.T) {
	e := engineOf(t, 1, "a within 0", "a b within 9")
	offer(t, e, "1a")
	beat(t, e, 0, 2)
	wantWaiting(t, e, 0, 1)
	wantRuns(t, e, 0, 0)
	wantWaiting(t, e, 1, 0)
	wantRuns(t, e, 1, 1)
	for _, query := range []int{-1, 2, 10, math.MinInt, math.MaxInt, 1 << 32} {
		wantWaiting(t, e, query, 0)
		wantRuns(t, e, query, 0)
	}
}

func TestP8MatchesWaitInTheirOrder(t *testing.T) {
	e := engineOf(t, 1, "a b within 9", "a !c within 2")
	offer(t, e, "1a 2a 4b 6a 7b")
	beat(t, e, 0, 5)
	beat(t, e, 0, 99)
	wantWaiting(t, e, 0, 3)
	wantWaiting(t, e, 1, 3)
	wantDrain(t, e, 3, "0:1a,4b/4 0:2a,4b/4 1:1a/3")
	wantDrain(t, e, 9, "1:2a/4 0:6a,7b/7 1:6a/8")
}

// A list that comes out may be written into, its spare room too: neither its neighbours nor the Engine see it.
func TestP2MatchesAreNewMemory(t *testing.T) {
	e := engineOf(t, 1, "a b c within 99", "a b c within 99")
	offer(t, e, "1a 2a 3b 4a 5c 6b 7c")
	beat(t, e, 0, 4)
	wantRuns(t, e, 0, 2)
	beat(t, e, 0, 6)
	first := e.Drain(2)
	scribble(first[0].Events)
	if got, want := writeMatches(first[1:]), "0:2a,3b,5c/5"; got != want {
		t.Errorf("P2: two lists of one answer share memory: %s, want %s", got, want)
	}
	scribble(first[1].Events)
	for i := range first[:cap(first)] {
		first[:cap(first)][i] = api.Match{Query: -7}
	}
	wantDrain(t, e, 2, "1:1a,3b,5c/5 1:2a,3b,5c/5")
	beat(t, e, 0, 9)
	wantDrain(t, e, 9, "0:4a,6b,7c/7 1:4a,6b,7c/7")
}

func scribble(events []api.Event) {
	for i := range events[:cap(events)] {
		events[:cap(events)][i] = api.Event{Source: -7, Time: -7, Kind: 'x', Value: -7}
	}
}

func TestP1CopyTellsNothing(t *testing.T) {
	e := served(t, 3)
	offer(t, e, "9b")
	dup := *e
	wantClosed(t, "a copy", &dup)
	wantServed(t, e, 9, 0, 0, 0)
}

func TestP8ManyMatches(t *testing.T) {
	e := engineOf(t, 1, "a within 0", "a !b within 0")
	const rounds = 200
	for round := range rounds {
		offer(t, e, strings.Repeat(writeEvent(api.Event{Time: round, Kind: 'a'})+" ", api.MaxBuffer))
		beat(t, e, 0, round+1)
	}
	wantWaiting(t, e, 0, rounds*api.MaxBuffer)
	wantWaiting(t, e, 1, rounds*api.MaxBuffer)
	if got := len(e.Drain(math.MaxInt)); got != 2*rounds*api.MaxBuffer {
		t.Errorf("P8: drained %d, want %d", got, 2*rounds*api.MaxBuffer)
	}
}

package lull_test

import (
	"math"
	"math/rand"
	"runtime"
	"slices"
	"strings"
	"testing"

	"lull/api"
	"lull/lull"
)

// batch tells what Batch answers, the matches of each pattern in brackets.
func batch(t *testing.T, sources int, patterns []string, events []api.Event) string {
	t.Helper()
	lists, errno := lull.Batch(sources, patterns, events)
	if errno != api.OK || len(lists) != len(patterns) {
		t.Fatalf("P9: Batch(%d, %q, %v) = %v, %d", sources, patterns, events, lists, errno)
	}
	return writeLists(lists)
}

func writeLists(lists [][]api.Match) string {
	var words []string
	for _, matches := range lists {
		words = append(words, "["+writeMatches(matches)+"]")
	}
	return strings.Join(words, " ")
}

func TestP9Batch(t *testing.T) {
	for _, c := range []struct {
		sources                int
		patterns, events, want string
	}{
		// The document's examples.
		{1, "a !b c within 5", "1a 4c", "[0:1a,4c/4]"},
		{1, "a !b c within 5", "1a 2b 4c", "[]"},
		{1, "a !b c within 5", "1a 7c", "[]"},
		{1, "a !b within 5", "1a", "[0:1a/6]"},
		{1, "a !b within 5", "1a 6b", "[]"},
		{1, "a !b within 5", "1a 7b", "[0:1a/6]"},
		{1, "a a within 9; a within 0", "1a 2a 3a", "[0:1a,2a/2 0:2a,3a/3] [1:1a/1 1:2a/2 1:3a/3]"},
		{1, "a>3 b=-2 within 9; a !a within 2", "1a=3 2a=4 3b=2 4b=-2", "[0:2a=4,4b=-2/4] [1:2a=4/4]"},

		// Each pattern has its list, of its own place, with nothing in it if nothing is found.
		{1, "z within 0; b within 0; z within 1; a within 0", "2b 1a", "[] [1:2b/2] [] [3:1a/1]"},
		{1, "a within 0; a within 0; a !b within 3", "1a 2a", "[0:1a/1 0:2a/2] [1:1a/1 1:2a/2] [2:1a/4 2:2a/5]"},

		// Events that come in another order than that of their times.
		{1, "a b c within 9; c b a within 9", "5c 3b 1a", "[0:1a,3b,5c/5] []"},
		{1, "a !b c within 9", "5c 3b 1a 2c", "[0:1a,2c/2]"},
		{3, "a b c within 0", "4c@2 4b@1 4a", "[0:4a,4b@1,4c@2/4]"},
		{3, "a b c within 0", "4a@2 4b@1 4c", "[]"},

		// Of one time and source they go as they came.
		{1, "a !b within 5; b a within 0", "1a 1b", "[] []"},
		{1, "a !b within 5; b a within 0", "1b 1a", "[0:1a/6] [1:1b,1a/1]"},
		{2, "a=1 a=2 a=3 within 0", "7a=1@1 7b 7a=2@1 6a 7a=3@1", "[0:7a=1@1,7a=2@1,7a=3@1/7]"},
		{2, "a=1 a=2 a=3 within 0", "7a=2@1 7b 7a=1@1 6a 7a=3@1", "[]"},

		// A deadline behind the last event.
		{1, "a !a within 1000; a b within 1000", "1000000a", "[0:1000000a/1001000] []"},
		{8, "a !b within 1000", "0a 1000b@7 1000a@7", "[0:1000a@7/2000]"},
		{8, "a b !c within 7", "1c@3 0a 3b@7 8c@2", "[0:0a,3b@7/7]"},

		// Matches come in the order in which they are certain, of one deadline in that in which their runs began.
		{1, "a b within 9", "3b 2a 1a", "[0:1a,3b/3 0:2a,3b/3]"},
		{1, "a !b within 2", "3a 1a=1 1a=2 2a", "[0:1a=1/3 0:1a=2/3 0:2a/4 0:3a/5]"},
		{1, "a=0 a within 9", "1a 2a=1 3a 4a", "[0:1a,2a=1/2 0:3a,4a/4]"},
	} {
		if got := batch(t, c.sources, strings.Split(c.patterns, "; "), readEvents(t, c.events)); got != c.want {
			t.Errorf("P9: Batch(%d, %s, %s): %s, want %s", c.sources, c.patterns, c.events, got, c.want)
		}
	}
}

// A nil or an empty list of patterns or of events is one of nothing.
func TestP9NoPatternNoEvent(t *testing.T) {
	for _, patterns := range [][]string{nil, {}} {
		for _, events := range [][]api.Event{nil, {}, readEvents(t, "1a")} {
			if got := batch(t, 1, patterns, events); got != "" {
				t.Errorf("P9: of no pattern: %s", got)
			}
		}
	}
	for _, events := range [][]api.Event{nil, {}} {
		if got := batch(t, 1, []string{"a within 0", "a !b within 5"}, events); got != "[] []" {
			t.Errorf("P9: of no event: %s", got)
		}
	}
}

func TestP9AsManyAsThereMayBe(t *testing.T) {
	events := slices.Repeat(readEvents(t, "1000000a=-1000@7"), api.MaxBuffer)
	patterns := slices.Repeat([]string{"a=-1000 !b within 1000"}, api.MaxQueries)
	lists, errno := lull.Batch(api.MaxSources, patterns, events)
	if errno != api.OK || len(lists) != api.MaxQueries {
		t.Fatalf("P9: %d lists, %d", len(lists), errno)
	}
	for place, matches := range lists {
		if len(matches) != api.MaxBuffer {
			t.Errorf("P9: %d matches of the pattern %d, want %d", len(matches), place, api.MaxBuffer)
		}
		for _, m := range matches {
			if m.Query != place || m.Close != api.MaxTime+api.MaxWithin || !slices.Equal(m.Events, events[:1]) {
				t.Fatalf("P9: the pattern %d: %v", place, m)
			}
		}
	}
}

func wantRefused(t *testing.T, sources int, patterns []string, events []api.Event, want api.Errno) {
	t.Helper()
	lists, errno := lull.Batch(sources, patterns, events)
	if errno != want || len(lists) != 0 {
		t.Errorf("P9: Batch(%d, %.60q, %d events) = %v, %d, want nothing, %d", sources, patterns, len(events), lists, errno, want)
	}
}

// wrongEvents are not proper where there are two sources, each for another reason.
func wrongEvents() []api.Event {
	return []api.Event{
		{},
		{Kind: 'a' - 1}, {Kind: 'z' + 1}, {Kind: 'A'}, {Kind: 255},
		{Kind: 'a', Source: -1}, {Kind: 'a', Source: 2}, {Kind: 'a', Source: math.MinInt}, {Kind: 'a', Source: math.MaxInt},
		{Kind: 'a', Time: -1}, {Kind: 'a', Time: api.MaxTime + 1}, {Kind: 'a', Time: math.MinInt}, {Kind: 'a', Time: math.MaxInt},
		{Kind: 'a', Value: -api.MaxValue - 1}, {Kind: 'a', Value: api.MaxValue + 1}, {Kind: 'a', Value: math.MinInt}, {Kind: 'a', Value: math.MaxInt},
	}
}

func TestP9Refused(t *testing.T) {
	good := readEvents(t, "1a 2b@1")
	for _, sources := range []int{0, -1, api.MaxSources + 1, math.MinInt, math.MaxInt, 1<<32 + 1} {
		wantRefused(t, sources, []string{"a within 5"}, nil, api.ErrArg)
		wantRefused(t, sources, nil, nil, api.ErrArg)
	}
	for _, text := range []string{"", "x", "a within", "a within 05", "!a within 5", "a  within 5", "a within 1001", "a !b !c within 5", strings.Repeat("a", 1<<20)} {
		wantRefused(t, 2, []string{text}, good, api.ErrText)
		wantRefused(t, 2, []string{"a within 5", text, "b within 5"}, good, api.ErrText)
	}
	wantRefused(t, 2, many(api.MaxQueries+1), good, api.ErrMany)
	wantRefused(t, 2, many(100000), good, api.ErrMany)
	for _, wrong := range wrongEvents() {
		for _, events := range [][]api.Event{{wrong}, {wrong, good[0], good[1]}, {good[0], wrong, good[1]}, {good[0], good[1], wrong}} {
			wantRefused(t, 2, many(1), events, api.ErrArg)
			wantRefused(t, 2, nil, events, api.ErrArg)
		}
	}
	wantRefused(t, 2, many(1), slices.Repeat(good[:1], api.MaxBuffer+1), api.ErrArg)
	wantRefused(t, 2, nil, slices.Repeat(good[:1], api.MaxBuffer+1), api.ErrArg)
	wantRefused(t, 2, many(1), slices.Repeat(good[:1], 1<<20), api.ErrArg)
}

// What is proper hangs on the number of sources.
func TestP9EventsOfTheSources(t *testing.T) {
	for sources := 1; sources <= api.MaxSources; sources++ {
		last := api.Event{Kind: 'a', Source: sources - 1}
		lists, errno := lull.Batch(sources, []string{"a within 0"}, []api.Event{last})
		if errno != api.OK || len(lists) != 1 || len(lists[0]) != 1 || !slices.Equal(lists[0][0].Events, []api.Event{last}) {
			t.Errorf("P9: of %d sources, the last: %v, %d", sources, lists, errno)
		}
		last.Source++
		wantRefused(t, sources, []string{"a within 0"}, []api.Event{last}, api.ErrArg)
	}
}

func TestP9FirstError(t *testing.T) {
	wrong := []api.Event{{}}
	tooManyEvents := slices.Repeat(readEvents(t, "1a"), api.MaxBuffer+1)
	tooManyTexts := append(many(api.MaxQueries+1), "a within")
	for _, events := range [][]api.Event{nil, wrong, tooManyEvents} {
		for _, patterns := range [][]string{nil, many(1), {"a within"}, many(api.MaxQueries + 1), tooManyTexts} {
			wantRefused(t, 0, patterns, events, api.ErrArg)
			wantRefused(t, api.MaxSources+1, patterns, events, api.ErrArg)
		}
		wantRefused(t, 1, []string{"a within"}, events, api.ErrText)
		wantRefused(t, 1, tooManyTexts, events, api.ErrText)
		wantRefused(t, 1, many(api.MaxQueries+1), events, api.ErrMany)
	}
}

func TestP2BatchWritesNothingAndKeepsNothing(t *testing.T) {
	patterns := []string{"a b within 9", "a !c within 9", "spare"}
	events := readEvents(t, "5b 2a 3a 9a")
	wantPatterns, wantEvents := slices.Clone(patterns), slices.Clone(events)
	first, _ := lull.Batch(1, patterns[:2], events[:3])
	if !slices.Equal(patterns, wantPatterns) || !slices.Equal(events, wantEvents) {
		t.Errorf("P2: Batch wrote into what it was given: %q, %v", patterns, events)
	}
	wantRefused(t, 1, patterns, events, api.ErrText)
	if !slices.Equal(patterns, wantPatterns) || !slices.Equal(events, wantEvents) {
		t.Errorf("P2: Batch wrote into what it was given: %q, %v", patterns, events)
	}
	second, _ := lull.Batch(1, patterns[:2], events[:3])
	const want = "[0:2a,5b/5 0:3a,5b/5] [1:2a/11 1:3a/12]"
	scribble(events)
	if got := writeLists(first); got != want {
		t.Errorf("P2: Batch told %s, want %s", got, want)
	}
	for _, matches := range first {
		for _, m := range matches {
			scribble(m.Events)
		}
	}
	if got := writeLists(second); got != want {
		t.Errorf("P2: two answers share memory: %s, want %s", got, want)
	}
}

// Each list of an answer is written over in turn, its spare room too: the others stay as they are.
func TestP2ListsOfABatchShareNothing(t *testing.T) {
	patterns := []string{"a b c within 99", "a b c within 99", "a within 0", "a b !d within 9"}
	events := readEvents(t, "1a 2a 3b 4a 5c 6b 7c")
	const want = "[0:1a,3b,5c/5 0:2a,3b,5c/5 0:4a,6b,7c/7] [1:1a,3b,5c/5 1:2a,3b,5c/5 1:4a,6b,7c/7] [2:1a/1 2:2a/2 2:4a/4] [3:1a,3b/10 3:2a,3b/11 3:4a,6b/13]"
	for place := range patterns {
		lists, _ := lull.Batch(1, patterns, events)
		if got := writeLists(lists); got != want {
			t.Fatalf("P9: %s, want %s", got, want)
		}
		for i := range lists[place] {
			m := &lists[place][i]
			kept := slices.Clone(m.Events)
			scribble(m.Events)
			copy(m.Events, kept)
			if got := writeLists(lists); got != want {
				t.Errorf("P2: the events of two matches share memory: %s, want %s", got, want)
			}
		}
		kept := slices.Clone(lists[place])
		room := lists[place][:cap(lists[place])]
		for i := range room {
			room[i] = api.Match{Query: -7}
		}
		copy(room, kept)
		if got := writeLists(lists); got != want {
			t.Errorf("P2: the matches of two patterns share memory: %s, want %s", got, want)
		}
	}
}

// All goroutines of a Batch end with it; what ends may still count for a moment.
func TestP1NoGoroutineIsLeft(t *testing.T) {
	before := runtime.NumGoroutine()
	events := slices.Repeat(readEvents(t, "1a"), api.MaxBuffer)
	for range 50 {
		lull.Batch(1, many(api.MaxQueries), events)
		lull.Batch(1, many(api.MaxQueries), nil)
		lull.Batch(1, many(api.MaxQueries), wrongEvents())
		lull.Batch(1, many(api.MaxQueries+1), events)
		lull.Batch(1, append(many(3), "no pattern"), events)
	}
	for range 1000000 {
		if runtime.NumGoroutine() <= before {
			return
		}
		runtime.Gosched()
	}
	t.Errorf("P1: %d goroutines ahead of all, %d behind", before, runtime.NumGoroutine())
}

func randomPatterns(r *rand.Rand, n int) []string {
	var patterns []string
	for range n {
		patterns = append(patterns, randomPattern(r))
	}
	return patterns
}

func randomEvents(r *rand.Rand, sources, n int) []api.Event {
	var events []api.Event
	for range n {
		events = append(events, randomEvent(r, sources, r.Intn(20)))
	}
	return events
}

// inOneEngine tells of each pattern the matches of its query, beside the others, as P9 says it: all registered, all offered, all marks set.
func inOneEngine(t *testing.T, sources int, patterns []string, events []api.Event) string {
	t.Helper()
	e := engineOf(t, sources, patterns...)
	wantOffer(t, e, len(events), api.OK, events...)
	for source := range sources {
		beat(t, e, source, 2*api.MaxTime)
	}
	lists := make([][]api.Match, len(patterns))
	for _, m := range e.Drain(math.MaxInt) {
		lists[m.Query] = append(lists[m.Query], m)
	}
	return writeLists(lists)
}

// inTheModel tells the same of the model.
func inTheModel(sources int, patterns []string, events []api.Event) string {
	m := newModel(sources)
	for _, text := range patterns {
		m.register(text)
	}
	for _, event := range events {
		m.offer(event)
	}
	for source := range sources {
		m.marks[source] = 2 * api.MaxTime
	}
	lists := make([][]api.Match, len(patterns))
	for number := range patterns {
		lists[number], _ = m.look(number)
	}
	return writeLists(lists)
}

func TestP9AsBesideTheOthersInAnEngine(t *testing.T) {
	told := 0
	for seed := range int64(400) {
		r := rand.New(rand.NewSource(seed))
		sources := 1 + r.Intn(api.MaxSources)
		patterns := randomPatterns(r, r.Intn(api.MaxQueries+1))
		events := randomEvents(r, sources, r.Intn(api.MaxBuffer+1))
		got := batch(t, sources, patterns, events)
		if want := inOneEngine(t, sources, patterns, events); got != want {
			t.Fatalf("P9: seed %d: Batch(%d, %q, %v): %s, an Engine tells %s", seed, sources, patterns, events, got, want)
		}
		if want := inTheModel(sources, patterns, events); got != want {
			t.Fatalf("P9: seed %d: Batch(%d, %q, %v): %s, the model tells %s", seed, sources, patterns, events, got, want)
		}
		told += strings.Count(got, "/")
	}
	if told < 5000 {
		t.Errorf("only %d matches were told: too few to trust", told)
	}
}

// A pattern's matches don't hang on the patterns beside it, but for the place.
func TestP9EachPatternByItself(t *testing.T) {
	for seed := range int64(50) {
		r := rand.New(rand.NewSource(seed))
		patterns := randomPatterns(r, 6)
		events := randomEvents(r, 2, 40)
		all, _ := lull.Batch(2, patterns, events)
		for place, text := range patterns {
			alone, _ := lull.Batch(2, []string{text}, events)
			for i := range alone[0] {
				alone[0][i].Query = place
			}
			if got, want := writeMatches(all[place]), writeMatches(alone[0]); got != want {
				t.Fatalf("P9: seed %d, %q: %s, alone %s", seed, text, got, want)
			}
		}
	}
}

// However the goroutines run, the answer is the same, and they don't stand in one another's way.
func TestP10BatchesAtTheSameTime(t *testing.T) {
	r := rand.New(rand.NewSource(7))
	patterns := randomPatterns(r, api.MaxQueries)
	events := randomEvents(r, 3, api.MaxBuffer)
	want := inOneEngine(t, 3, patterns, events)
	answers := make(chan string)
	const callers, calls = 8, 20
	for range callers {
		go func() {
			for range calls {
				lists, _ := lull.Batch(3, patterns, events)
				answers <- writeLists(lists)
			}
		}()
	}
	for range callers * calls {
		if got := <-answers; got != want {
			t.Errorf("P10: %s, want %s", got, want)
		}
	}
}

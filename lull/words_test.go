package lull_test

import (
	"slices"
	"strconv"
	"strings"
	"testing"

	"lull/api"
	"lull/lull"
)

// The tests tell events as words: the time and the kind, maybe a value behind =, maybe a source behind @ (3a, 5b=-2, 7c@1).

func readEvents(t *testing.T, words string) []api.Event {
	t.Helper()
	var events []api.Event
	for _, word := range strings.Fields(words) {
		rest, source, _ := strings.Cut(word, "@")
		rest, value, _ := strings.Cut(rest, "=")
		last := len(rest) - 1
		events = append(events, api.Event{
			Source: readInt(t, source),
			Time:   readInt(t, rest[:last]),
			Kind:   rest[last],
			Value:  readInt(t, value),
		})
	}
	return events
}

// readInt reads a number; nothing is 0.
func readInt(t *testing.T, word string) int {
	t.Helper()
	if word == "" {
		return 0
	}
	n, err := strconv.Atoi(word)
	if err != nil {
		t.Fatal(err)
	}
	return n
}

func writeEvent(e api.Event) string {
	word := strconv.Itoa(e.Time) + string(rune(e.Kind))
	if e.Value != 0 {
		word += "=" + strconv.Itoa(e.Value)
	}
	if e.Source != 0 {
		word += "@" + strconv.Itoa(e.Source)
	}
	return word
}

// writeMatches tells each match as the query, the events and the Close: 0:1a,4c/4.
func writeMatches(matches []api.Match) string {
	var words []string
	for _, m := range matches {
		var events []string
		for _, e := range m.Events {
			events = append(events, writeEvent(e))
		}
		words = append(words, strconv.Itoa(m.Query)+":"+strings.Join(events, ",")+"/"+strconv.Itoa(m.Close))
	}
	return strings.Join(words, " ")
}

func engineOf(t *testing.T, sources int, patterns ...string) *lull.Engine {
	t.Helper()
	e, errno := lull.New(sources)
	if errno != api.OK {
		t.Fatalf("P3: New(%d): %d", sources, errno)
	}
	if numbers, errno, place := e.Register(patterns...); errno != api.OK || len(numbers) != len(patterns) {
		t.Fatalf("P4: Register(%q) = %v, %d, %d", patterns, numbers, errno, place)
	}
	return e
}

// offer offers events of which none is refused.
func offer(t *testing.T, e *lull.Engine, words string) {
	t.Helper()
	events := readEvents(t, words)
	wantOffer(t, e, len(events), api.OK, events...)
}

func wantOffer(t *testing.T, e *lull.Engine, n int, errno api.Errno, events ...api.Event) {
	t.Helper()
	if got, gotErrno := e.Offer(events...); got != n || gotErrno != errno {
		t.Errorf("P6: Offer(%v) = %d, %d, want %d, %d", events, got, gotErrno, n, errno)
	}
}

func beat(t *testing.T, e *lull.Engine, source, time int) {
	t.Helper()
	if errno := e.Beat(source, time); errno != api.OK {
		t.Errorf("P7: Beat(%d, %d) = %d", source, time, errno)
	}
}

func wantBeat(t *testing.T, e *lull.Engine, source, time int, errno api.Errno, watermark int) {
	t.Helper()
	if got := e.Beat(source, time); got != errno || e.Watermark() != watermark {
		t.Errorf("P7: Beat(%d, %d) = %d, the watermark %d, want %d, %d", source, time, got, e.Watermark(), errno, watermark)
	}
}

func wantRuns(t *testing.T, e *lull.Engine, query, runs int) {
	t.Helper()
	if got := e.Runs(query); got != runs {
		t.Errorf("P8: Runs(%d) = %d at the watermark %d, want %d", query, got, e.Watermark(), runs)
	}
}

func wantWaiting(t *testing.T, e *lull.Engine, query, matches int) {
	t.Helper()
	if got := e.Waiting(query); got != matches {
		t.Errorf("P8: Waiting(%d) = %d at the watermark %d, want %d", query, got, e.Watermark(), matches)
	}
}

func wantDrain(t *testing.T, e *lull.Engine, n int, want string) {
	t.Helper()
	if got := writeMatches(e.Drain(n)); got != want {
		t.Errorf("P8: Drain(%d) = %s, want %s", n, got, want)
	}
}

// wantServed drains n matches, and looks at their queries alone.
func wantServed(t *testing.T, e *lull.Engine, n int, want ...int) {
	t.Helper()
	var got []int
	for _, m := range e.Drain(n) {
		got = append(got, m.Query)
	}
	if !slices.Equal(got, want) {
		t.Errorf("P8: Drain(%d) served %v, want %v", n, got, want)
	}
}

package lull_test

import (
	"math"
	"slices"
	"strings"
	"testing"

	"lull/api"
)

func TestP6ProperEvents(t *testing.T) {
	e := engineOf(t, 3)
	for _, event := range []api.Event{
		{Kind: 'a'}, {Kind: 'z'}, {Source: 2, Kind: 'm'}, {Kind: 'a', Time: api.MaxTime},
		{Kind: 'a', Value: api.MaxValue}, {Kind: 'a', Value: -api.MaxValue},
	} {
		wantOffer(t, e, 1, api.OK, event)
	}
	for _, event := range []api.Event{
		{}, {Kind: 'a' - 1}, {Kind: 'z' + 1}, {Kind: 'A'}, {Kind: 'Z'}, {Kind: 255}, {Kind: '0'},
		{Kind: 'a', Source: -1}, {Kind: 'a', Source: 3}, {Kind: 'a', Source: math.MaxInt}, {Kind: 'a', Source: math.MinInt}, {Kind: 'a', Source: 1 << 32},
		{Kind: 'a', Time: -1}, {Kind: 'a', Time: api.MaxTime + 1}, {Kind: 'a', Time: math.MaxInt}, {Kind: 'a', Time: math.MinInt},
		{Kind: 'a', Value: api.MaxValue + 1}, {Kind: 'a', Value: -api.MaxValue - 1}, {Kind: 'a', Value: math.MaxInt}, {Kind: 'a', Value: math.MinInt},
	} {
		wantOffer(t, e, 0, api.ErrArg, event)
	}
	wantOffer(t, e, 0, api.OK)
}

func TestP6SourcesOfEachEngine(t *testing.T) {
	for sources := 1; sources <= api.MaxSources; sources++ {
		e := engineOf(t, sources)
		wantOffer(t, e, 1, api.OK, api.Event{Kind: 'a', Source: sources - 1})
		wantOffer(t, e, 0, api.ErrArg, api.Event{Kind: 'a', Source: sources})
	}
}

func TestP6WhatCameAheadOfTheRefusedIsTaken(t *testing.T) {
	e := engineOf(t, 1, "a within 0")
	a := func(time int) api.Event { return api.Event{Kind: 'a', Time: time} }
	beat(t, e, 0, 4)
	wantOffer(t, e, 2, api.ErrArg, a(4), a(5), api.Event{Time: 6}, a(7))
	wantOffer(t, e, 1, api.ErrLate, a(6), a(3), a(7))
	wantOffer(t, e, 0, api.ErrLate, a(0), api.Event{})
	beat(t, e, 0, 99)
	wantDrain(t, e, 99, "0:4a/4 0:5a/5 0:6a/6")
}

// A time at the watermark is not below it; and it is the watermark, not the source's own mark, that counts.
func TestP6Late(t *testing.T) {
	e := engineOf(t, 2, "a within 0")
	beat(t, e, 0, 9)
	offer(t, e, "0a 3a@1")
	beat(t, e, 1, 5)
	for _, word := range []string{"4a", "4a@1", "0a", "0a@1"} {
		wantOffer(t, e, 0, api.ErrLate, readEvents(t, word)...)
	}
	offer(t, e, "5a 5a@1")
	beat(t, e, 1, 2*api.MaxTime)
	beat(t, e, 0, api.MaxTime)
	offer(t, e, "1000000a")
	wantOffer(t, e, 0, api.ErrLate, api.Event{Kind: 'a', Time: api.MaxTime - 1})
	beat(t, e, 0, api.MaxTime+1)
	wantOffer(t, e, 0, api.ErrLate, api.Event{Kind: 'a', Time: api.MaxTime})
	wantDrain(t, e, 99, "0:0a/0 0:3a@1/3 0:5a/5 0:5a@1/5 0:1000000a/1000000")
}

func TestP6Full(t *testing.T) {
	e := engineOf(t, 2, "a within 0")
	a := api.Event{Kind: 'a', Time: 5}
	wantOffer(t, e, api.MaxBuffer-1, api.OK, slices.Repeat([]api.Event{a}, api.MaxBuffer-1)...)
	wantOffer(t, e, 1, api.ErrFull, a, a)
	wantOffer(t, e, 0, api.ErrFull, a)
	wantOffer(t, e, 0, api.OK)
	beat(t, e, 0, 9)
	beat(t, e, 1, 5)
	wantOffer(t, e, 0, api.ErrFull, a)
	beat(t, e, 1, 6)
	wantWaiting(t, e, 0, api.MaxBuffer)
	// Matches that wait take no room from events.
	later := api.Event{Kind: 'b', Time: 6}
	wantOffer(t, e, api.MaxBuffer, api.ErrFull, slices.Repeat([]api.Event{later}, api.MaxBuffer+1)...)
}

func TestP6FirstError(t *testing.T) {
	e := engineOf(t, 1)
	beat(t, e, 0, 5)
	wantOffer(t, e, 0, api.ErrArg, api.Event{Time: 4})
	wantOffer(t, e, 0, api.ErrArg, api.Event{Kind: 'a', Time: -1})
	wantOffer(t, e, api.MaxBuffer, api.ErrFull, slices.Repeat([]api.Event{{Kind: 'a', Time: 5}}, api.MaxBuffer+9)...)
	wantOffer(t, e, 0, api.ErrLate, api.Event{Kind: 'a', Time: 4})
	wantOffer(t, e, 0, api.ErrArg, api.Event{Kind: 'A', Time: 4})
	wantOffer(t, e, 0, api.ErrArg, api.Event{Kind: 'a', Time: 5, Value: 1001})
	wantOffer(t, e, 0, api.ErrFull, api.Event{Kind: 'a', Time: 5})
}

func TestP2EventsAreNeitherWrittenNorKept(t *testing.T) {
	e := engineOf(t, 1, "a b within 9")
	room := readEvents(t, "5b 2a 3c 9a")
	want := slices.Clone(room)
	wantOffer(t, e, 3, api.OK, room[:3]...)
	if !slices.Equal(room, want) {
		t.Errorf("P2: Offer wrote into its list: %v", room)
	}
	for i := range room {
		room[i] = api.Event{Kind: 'z', Time: 7}
	}
	beat(t, e, 0, 99)
	wantDrain(t, e, 9, "0:2a,5b/5")
}

func TestP7Errors(t *testing.T) {
	e := engineOf(t, 2)
	wantBeat(t, e, 0, 0, api.OK, 0)
	for _, source := range []int{-1, 2, math.MinInt, math.MaxInt, 1 << 32} {
		wantBeat(t, e, source, 5, api.ErrArg, 0)
	}
	for _, time := range []int{-1, 2*api.MaxTime + 1, math.MinInt, math.MaxInt} {
		wantBeat(t, e, 0, time, api.ErrArg, 0)
	}
	wantBeat(t, e, 0, 5, api.OK, 0)
	wantBeat(t, e, 0, 4, api.ErrLate, 0)
	wantBeat(t, e, 0, -1, api.ErrArg, 0)
	wantBeat(t, e, 0, 5, api.OK, 0)
	wantBeat(t, e, 1, 4, api.OK, 4)
	wantBeat(t, e, 1, 3, api.ErrLate, 4)
	wantBeat(t, e, 1, 8, api.OK, 5)
	wantBeat(t, e, 1, 7, api.ErrLate, 5)
	wantBeat(t, e, 0, 2*api.MaxTime, api.OK, 8)
	wantBeat(t, e, 0, 2*api.MaxTime-1, api.ErrLate, 8)
	wantBeat(t, e, 1, 2*api.MaxTime, api.OK, 2*api.MaxTime)
	wantBeat(t, e, 1, 2*api.MaxTime, api.OK, 2*api.MaxTime)
	wantBeat(t, e, 1, 2*api.MaxTime+1, api.ErrArg, 2*api.MaxTime)
}

func TestP7WatermarkIsTheLeastMark(t *testing.T) {
	e := engineOf(t, api.MaxSources)
	for source := range api.MaxSources {
		if e.Watermark() != 0 {
			t.Errorf("P7: Watermark() = %d ahead of the source %d", e.Watermark(), source)
		}
		beat(t, e, source, 100-source)
	}
	if e.Watermark() != 93 {
		t.Errorf("P7: Watermark() = %d, want 93", e.Watermark())
	}
}

// watched tells, behind each mark, the matches of an Engine of one source and one pattern, and a + for each run.
func watched(t *testing.T, pattern, events string, marks ...int) string {
	t.Helper()
	e := engineOf(t, 1, pattern)
	offer(t, e, events)
	var told []string
	for _, mark := range marks {
		beat(t, e, 0, mark)
		waiting, matches := e.Waiting(0), e.Drain(99)
		if waiting != len(matches) {
			t.Errorf("P8: Waiting(0) = %d, and Drain tells %d", waiting, len(matches))
		}
		told = append(told, "["+writeMatches(matches)+"]"+strings.Repeat("+", e.Runs(0)))
	}
	return strings.Join(told, " ")
}

func TestP7Runs(t *testing.T) {
	for _, c := range []struct {
		pattern, events string
		marks           []int
		want            string
	}{
		// The document's examples.
		{"a !b c within 5", "1a 4c", []int{4, 5}, "[]+ [0:1a,4c/4]"},
		{"a !b c within 5", "1a 2b 4c", []int{3, 9}, "[] []"},
		{"a !b c within 5", "1a 7c", []int{2, 6, 7, 8}, "[]+ []+ [] []"},
		{"a !b within 5", "1a", []int{6, 7}, "[]+ [0:1a/6]"},
		{"a !b within 5", "1a 6b", []int{6, 7}, "[]+ []"},
		{"a !b within 5", "1a 7b", []int{8}, "[0:1a/6]"},
		{"a !b within 5", "1a 1b", []int{9}, "[]"},
		{"a !b within 5", "1b 1a", []int{9}, "[0:1a/6]"},
		{"a a within 9", "1a 2a 3a", []int{12, 13}, "[0:1a,2a/2 0:2a,3a/3]+ []"},
		{"a within 0", "1a 1a 2b 3a=7", []int{1, 2, 9}, "[] [0:1a/1 0:1a/1] [0:3a=7/3]"},
		{"a>3 b=-2 within 9", "1a=3 2a=4 3b=2 4b=-2", []int{9}, "[0:2a=4,4b=-2/4]"},
		{"a !a within 2", "1a 2a 4a 7a", []int{99}, "[0:4a/6 0:7a/9]"},

		// An event at the deadline's own time is shown to the run, one behind it is not.
		{"a b within 5", "1a 6b", []int{6, 7}, "[]+ [0:1a,6b/6]"},
		{"a b within 5", "1a 7b", []int{6, 7}, "[]+ []"},
		{"a b within 0", "1a 1b 2a 3b", []int{99}, "[0:1a,1b/1]"},
		{"a !b within 0", "1a 1b 2a 3b", []int{99}, "[0:2a/2]"},
		{"a b !c within 5", "1a 6b 6c", []int{99}, "[]"},
		{"a b !c within 5", "1a 6c 6b", []int{99}, "[0:1a,6b/6]"},
		{"a b within 1000", "1000000a 1000000c", []int{1001000, 1001001}, "[]+ []"},
		{"a !b within 1000", "1000000a 1000000c", []int{1001000, 1001001}, "[]+ [0:1000000a/1001000]"},
		{"a !b within 1000", "0a 1000b", []int{1000, 2000000}, "[]+ []"},

		// Several events of one time go one by one, as they came.
		{"a a within 5", "3a=1 3a=2 3a=3", []int{3, 4, 9}, "[] [0:3a=1,3a=2/3 0:3a=2,3a=3/3]+ []"},
		{"a b c within 0", "3a 3b 3c", []int{9}, "[0:3a,3b,3c/3]"},
		{"a b c within 0", "3a 3c 3b", []int{9}, "[]"},

		// A step that must not come counts only next ahead of the next one that must, or last when all others are done.
		{"a b !c d within 9", "1a 2c 3b 4d", []int{99}, "[0:1a,3b,4d/4]"},
		{"a b !c d within 9", "1a 2b 3c 4d", []int{99}, "[]"},
		{"a !c b d within 9", "1a 2b 3c 4d", []int{99}, "[0:1a,2b,4d/4]"},
		{"a !c b !d within 9", "1a 2d 3b 4c", []int{99}, "[0:1a,3b/10]"},
		{"a !c b !d within 9", "1a 2c 3b", []int{99}, "[]"},
		{"a b !c within 9", "1a 2c 3c 4b 5a 6b 7c", []int{99}, "[]"},
		{"a b !c within 9", "1a 2c 3c 4b", []int{10, 11}, "[]+ [0:1a,4b/10]"},
		{"a !b within 9", "1a 2c 3a 4b", []int{99}, "[]"},
		// If all steps that must come are not done by the deadline, that nothing forbidden came is no match.
		{"a b !c within 5", "1a 9b", []int{99}, "[]"},

		// What matches both the step that must not come and the one that must ends the run.
		{"a !b b within 9", "1a 2b", []int{99}, "[]"},
		{"a !b>0 b within 9", "1a 2b=1 3a 4b", []int{99}, "[0:3a,4b/4]"},
		{"a !b<0 b=-1 within 9", "1a 2b=-1", []int{99}, "[]"},

		// An event that matches nothing a run waits for leaves it as it is.
		{"a b c within 9", "1a 2c 3a 4b 5a 6b 7c", []int{99}, "[0:1a,4b,7c/7 0:3a,4b,7c/7 0:5a,6b,7c/7]"},
		{"a b within 9", "1b 2b 3c", []int{99}, "[]"},
		{"a=1 a=2 within 9", "1a 2a=2 3a=1 4a=1 5a=2", []int{99}, "[0:3a=1,5a=2/5 0:4a=1,5a=2/5]"},
		{"a a a a a a a a within 9", "1a 2a 3a 4a 5a 6a 7a 8a 9a", []int{9, 10, 16}, "[0:1a,2a,3a,4a,5a,6a,7a,8a/8]+++++++ [0:2a,3a,4a,5a,6a,7a,8a,9a/9]+++++++ []+++"},

		// At one time the events come ahead of the deadlines, and deadlines go in the order in which the runs began.
		{"a !b within 2", "1a 1a=1 2a 3a", []int{3, 4, 5, 6}, "[]+++ [0:1a/3 0:1a=1/3]++ [0:2a/4]+ [0:3a/5]"},
		{"a !b within 2", "1a 1a=1 2a 3a", []int{99}, "[0:1a/3 0:1a=1/3 0:2a/4 0:3a/5]"},

		// Events that stand in the order of their times, however they came.
		{"a b within 5", "4b 3c 1a", []int{99}, "[0:1a,4b/4]"},
		{"a b within 5", "10b 9a 1b 0a", []int{99}, "[0:0a,1b/1 0:9a,10b/10]"},
	} {
		if got := watched(t, c.pattern, c.events, c.marks...); got != c.want {
			t.Errorf("P7: %q, events %s, marks %v: %s, want %s", c.pattern, c.events, c.marks, got, c.want)
		}
	}
}

// Of one time the events of the lesser source go ahead, however they came.
func TestP7Sources(t *testing.T) {
	for _, events := range []string{"3b@1 3a", "3a 3b@1"} {
		e := engineOf(t, 2, "a b within 0", "b a within 0", "a !b within 0")
		offer(t, e, events)
		beat(t, e, 1, 9)
		wantWaiting(t, e, 0, 0)
		beat(t, e, 0, 3)
		wantWaiting(t, e, 0, 0)
		beat(t, e, 0, 4)
		wantDrain(t, e, 9, "0:3a,3b@1/3")
	}
}

// A beat that is refused, or that leaves the watermark, releases nothing.
func TestP7NothingIsReleasedAheadOfTheWatermark(t *testing.T) {
	e := engineOf(t, 2, "a within 0")
	offer(t, e, "1a 2a@1")
	beat(t, e, 0, 9)
	beat(t, e, 1, 1)
	for _, c := range [][2]int{{0, 8}, {1, 0}, {2, 9}, {1, -1}, {1, 2*api.MaxTime + 1}, {1, 1}, {0, 99}} {
		e.Beat(c[0], c[1])
		wantWaiting(t, e, 0, 0)
	}
	beat(t, e, 1, 2)
	wantDrain(t, e, 9, "0:1a/1")
	beat(t, e, 1, 3)
	wantDrain(t, e, 9, "0:2a@1/2")
}

func TestP4QueryIsShownWhatIsReleasedFromThenOn(t *testing.T) {
	e := engineOf(t, 1, "a b within 9")
	offer(t, e, "1a 2a 4b")
	beat(t, e, 0, 2)
	// 1a is released, 2a and 4b wait.
	wantRegister(t, e, []int{1}, api.OK, 0, "a b within 9")
	wantRuns(t, e, 0, 1)
	wantRuns(t, e, 1, 0)
	beat(t, e, 0, 3)
	wantRegister(t, e, []int{2, 3}, api.OK, 0, "a b within 9", "b within 0")
	beat(t, e, 0, 99)
	wantDrain(t, e, 9, "0:1a,4b/4 0:2a,4b/4 1:2a,4b/4 3:4b/4")
	wantRegister(t, e, []int{4}, api.OK, 0, "a !c within 0")
	wantWaiting(t, e, 4, 0)
}

func TestP5RunsAndMatchesAreGone(t *testing.T) {
	e := engineOf(t, 1, "a within 9", "a b within 9", "a !c within 9")
	offer(t, e, "1a 2a 5b")
	beat(t, e, 0, 3)
	wantWaiting(t, e, 0, 2)
	wantRuns(t, e, 1, 2)
	wantRuns(t, e, 2, 2)
	for query := range 3 {
		wantRemove(t, e, query, api.OK)
		wantWaiting(t, e, query, 0)
		wantRuns(t, e, query, 0)
	}
	wantDrain(t, e, 9, "")
	wantRegister(t, e, []int{3}, api.OK, 0, "b within 0")
	beat(t, e, 0, 99)
	wantDrain(t, e, 9, "3:5b/5")
}

// The runs of a query that is removed while events wait are gone; those of the others go on.
func TestP5OthersGoOn(t *testing.T) {
	e := engineOf(t, 1, "a b within 9", "a b within 9", "a !c within 3")
	offer(t, e, "1a 5b")
	beat(t, e, 0, 2)
	wantRemove(t, e, 0, api.OK)
	wantRuns(t, e, 1, 1)
	wantRuns(t, e, 2, 1)
	beat(t, e, 0, 99)
	wantDrain(t, e, 9, "1:1a,5b/5 2:1a/4")
}

func TestP2EnginesShareNoEvents(t *testing.T) {
	one, two := engineOf(t, 1, "a within 0"), engineOf(t, 1, "a within 0")
	offer(t, one, "1a")
	beat(t, two, 0, 9)
	wantWaiting(t, two, 0, 0)
	if one.Watermark() != 0 {
		t.Errorf("P2: another's beat raised the watermark to %d", one.Watermark())
	}
	beat(t, one, 0, 9)
	wantWaiting(t, one, 0, 1)
	wantDrain(t, two, 9, "")
	wantDrain(t, one, 9, "0:1a/1")
}

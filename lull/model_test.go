package lull_test

import (
	"cmp"
	"math/rand"
	"slices"
	"strconv"
	"strings"
	"testing"

	"lull/api"
	"lull/lull"
)

// model is an Engine told another way: it keeps all that was taken, and works all matches out anew, run by run, each time it is asked.
type model struct {
	marks   []int
	taken   []api.Event
	queries map[int]*modelQuery
	next    int
	last    int
	inRow   int
}

type modelQuery struct {
	text    string
	since   int // the watermark when it was registered
	drained int
}

func newModel(sources int) *model {
	return &model{marks: make([]int, sources), queries: map[int]*modelQuery{}, last: -1}
}

func (m *model) watermark() int { return slices.Min(m.marks) }

func (m *model) register(text string) {
	m.queries[m.next] = &modelQuery{text: text, since: m.watermark()}
	m.next++
}

func (m *model) offer(event api.Event) api.Errno {
	waiting := 0
	for _, e := range m.taken {
		if e.Time >= m.watermark() {
			waiting++
		}
	}
	switch {
	case event.Time < m.watermark():
		return api.ErrLate
	case waiting == api.MaxBuffer:
		return api.ErrFull
	}
	m.taken = append(m.taken, event)
	return api.OK
}

// released tells the events that a query was shown.
func (m *model) released(q *modelQuery) []api.Event {
	var events []api.Event
	for _, e := range m.taken {
		if e.Time >= q.since && e.Time < m.watermark() {
			events = append(events, e)
		}
	}
	slices.SortStableFunc(events, func(x, y api.Event) int {
		return cmp.Or(x.Time-y.Time, x.Source-y.Source)
	})
	return events
}

// outcome is a match, and where in the order of things it came: at the event of that place, or behind all events of its Close.
type outcome struct {
	match      api.Match
	atDeadline int
	event      int
	begun      int
}

// look tells all matches of a query, drained or not, and how many runs there are.
func (m *model) look(number int) ([]api.Match, int) {
	q := m.queries[number]
	steps, within := splitPattern(q.text)
	events := m.released(q)
	var outcomes []outcome
	runs := 0
	for begun, first := range events {
		if !fits(steps[0], first) {
			continue
		}
		deadline := first.Time + within
		at, got, over := follow(steps[1:], events, begun, deadline)
		certain := m.watermark() > deadline
		o := outcome{match: api.Match{Query: number, Events: got}, begun: begun}
		switch {
		case over:
		case at >= 0:
			o.event = at
			o.match.Close = events[at].Time
			outcomes = append(outcomes, o)
		case certain && len(got) == countMust(steps):
			o.atDeadline = 1
			o.match.Close = deadline
			outcomes = append(outcomes, o)
		case !certain:
			runs++
		}
	}
	slices.SortFunc(outcomes, func(x, y outcome) int {
		return cmp.Or(x.match.Close-y.match.Close, x.atDeadline-y.atDeadline, x.event-y.event, x.begun-y.begun)
	})
	var matches []api.Match
	for _, o := range outcomes {
		matches = append(matches, o.match)
	}
	return matches, runs
}

// follow goes from the event that begins a run to that which makes it a match (at), or ends it (over); at is -1, if none does.
func follow(steps []string, events []api.Event, from, deadline int) (at int, got []api.Event, over bool) {
	at = from
	got = []api.Event{events[from]}
	for len(steps) > 0 {
		forbidden := ""
		if steps[0][0] == '!' {
			forbidden, steps = steps[0][1:], steps[1:]
		}
		found := -1
		for i := at + 1; i < len(events) && events[i].Time <= deadline; i++ {
			if forbidden != "" && fits(forbidden, events[i]) {
				return -1, got, true
			}
			if len(steps) > 0 && fits(steps[0], events[i]) {
				found = i
				break
			}
		}
		if found < 0 {
			return -1, got, false
		}
		got = append(got, events[found])
		at, steps = found, steps[1:]
	}
	return at, got, false
}

func splitPattern(text string) ([]string, int) {
	words := strings.Fields(text)
	within, _ := strconv.Atoi(words[len(words)-1])
	return words[:len(words)-2], within
}

func countMust(steps []string) int {
	n := 0
	for _, step := range steps {
		if step[0] != '!' {
			n++
		}
	}
	return n
}

func fits(step string, event api.Event) bool {
	if event.Kind != step[0] {
		return false
	}
	if len(step) == 1 {
		return true
	}
	number, _ := strconv.Atoi(step[2:])
	return strings.IndexByte("<=>", step[1]) == cmp.Compare(event.Value, number)+1
}

func (m *model) waits(number int) bool {
	q := m.queries[number]
	if q == nil {
		return false
	}
	matches, _ := m.look(number)
	return len(matches) > q.drained
}

func (m *model) drain(n int) []api.Match {
	var out []api.Match
	for len(out) < n {
		number, inRow := m.last, m.inRow+1
		if !m.waits(number) || m.inRow == api.Quantum {
			number, inRow = m.nextThatWaits(), 1
		}
		if number < 0 {
			break
		}
		matches, _ := m.look(number)
		out = append(out, matches[m.queries[number].drained])
		m.queries[number].drained++
		m.last, m.inRow = number, inRow
	}
	return out
}

// nextThatWaits goes through all numbers that there ever were, once round; -1, if none has a match that waits.
func (m *model) nextThatWaits() int {
	for i := range m.next {
		if number := (m.last + 1 + i) % m.next; m.waits(number) {
			return number
		}
	}
	return -1
}

func randomPattern(r *rand.Rand) string {
	var words []string
	forbidden := true
	for range 1 + r.Intn(4) {
		word := string(rune('a' + r.Intn(3)))
		if r.Intn(4) == 0 {
			word += string("<=>"[r.Intn(3)]) + strconv.Itoa(r.Intn(3)-1)
		}
		forbidden = !forbidden && r.Intn(2) == 0
		if forbidden {
			word = "!" + word
		}
		words = append(words, word)
	}
	return strings.Join(words, " ") + " within " + strconv.Itoa(r.Intn(8))
}

func randomEvent(r *rand.Rand, sources, from int) api.Event {
	return api.Event{Source: r.Intn(sources), Time: max(0, from-1+r.Intn(7)), Kind: byte('a' + r.Intn(3)), Value: r.Intn(3) - 1}
}

// TestP10EngineIsAsTheModel does the same with both, and compares all they tell behind each call.
func TestP10EngineIsAsTheModel(t *testing.T) {
	told := 0
	for seed := range int64(300) {
		r := rand.New(rand.NewSource(seed))
		sources := 1 + r.Intn(3)
		e, m := engineOf(t, sources), newModel(sources)
		for range 120 {
			told += randomCall(t, r, e, m)
			if t.Failed() {
				t.Fatalf("of the seed %d", seed)
			}
		}
	}
	if told < 5000 {
		t.Errorf("only %d matches were told: too few to trust", told)
	}
}

// randomCall does one thing with both; it tells how many matches were drained.
func randomCall(t *testing.T, r *rand.Rand, e *lull.Engine, m *model) int {
	t.Helper()
	told := 0
	switch r.Intn(14) {
	case 0:
		if len(m.queries) < api.MaxQueries {
			text := randomPattern(r)
			wantRegister(t, e, []int{m.next}, api.OK, 0, text)
			m.register(text)
		}
	case 1:
		if number := r.Intn(m.next + 2); r.Intn(3) == 0 && m.queries[number] != nil {
			wantRemove(t, e, number, api.OK)
			delete(m.queries, number)
		}
	case 2, 3, 4, 5:
		source := r.Intn(len(m.marks))
		m.marks[source] += r.Intn(6)
		wantBeat(t, e, source, m.marks[source], api.OK, m.watermark())
	case 6, 7:
		n := r.Intn(5)
		want := writeMatches(m.drain(n))
		wantDrain(t, e, n, want)
		told = len(strings.Fields(want))
	default:
		offerBoth(t, r, e, m)
	}
	for number := range m.next + 1 {
		wantAsModel(t, e, m, number)
	}
	return told
}

func offerBoth(t *testing.T, r *rand.Rand, e *lull.Engine, m *model) {
	t.Helper()
	var events []api.Event
	taken, errno := 0, api.OK
	for range r.Intn(9) {
		event := randomEvent(r, len(m.marks), m.watermark())
		events = append(events, event)
		if errno == api.OK {
			if errno = m.offer(event); errno == api.OK {
				taken++
			}
		}
	}
	wantOffer(t, e, taken, errno, events...)
}

func wantAsModel(t *testing.T, e *lull.Engine, m *model, number int) {
	t.Helper()
	q := m.queries[number]
	if q == nil {
		wantWaiting(t, e, number, 0)
		wantRuns(t, e, number, 0)
		return
	}
	matches, runs := m.look(number)
	wantWaiting(t, e, number, len(matches)-q.drained)
	wantRuns(t, e, number, runs)
	if t.Failed() {
		t.Logf("query %d is %q, shown %v", number, q.text, m.released(q))
	}
}

// TestP10OrderDoesNotMatter hands the same events in, in another order each time, with other beats and drains between; and to Batch.
func TestP10OrderDoesNotMatter(t *testing.T) {
	for seed := range int64(50) {
		r := rand.New(rand.NewSource(seed))
		patterns, events := randomPatterns(r, 4), randomEvents(r, 3, 30)
		want := batch(t, 3, patterns, events)
		for range 10 {
			events = shuffled(r, events)
			if got := tellAll(t, r, patterns, events); got != want {
				t.Fatalf("P10: seed %d, %q: Batch tells %s, and in another order an Engine %s", seed, patterns, want, got)
			}
			if got := batch(t, 3, patterns, events); got != want {
				t.Fatalf("P10: seed %d, %q: Batch tells %s, and in another order %s", seed, patterns, want, got)
			}
		}
	}
}

// shuffled changes the order, but of those of one source and one time.
func shuffled(r *rand.Rand, events []api.Event) []api.Event {
	type place struct{ source, time int }
	rows := map[place][]api.Event{}
	for _, e := range events {
		p := place{e.Source, e.Time}
		rows[p] = append(rows[p], e)
	}
	var out []api.Event
	for _, i := range r.Perm(len(events)) {
		p := place{events[i].Source, events[i].Time}
		out = append(out, rows[p][0])
		rows[p] = rows[p][1:]
	}
	return out
}

// tellAll tells all matches, by query. Each source beats up to the least time that is still to come, at random.
func tellAll(t *testing.T, r *rand.Rand, patterns []string, events []api.Event) string {
	t.Helper()
	e := engineOf(t, 3, patterns...)
	told := make([][]api.Match, len(patterns))
	drain := func(n int) {
		for _, m := range e.Drain(n) {
			told[m.Query] = append(told[m.Query], m)
		}
	}
	for i, event := range events {
		wantOffer(t, e, 1, api.OK, event)
		least := 40
		for _, later := range events[i+1:] {
			least = min(least, later.Time)
		}
		for _, source := range r.Perm(3)[:r.Intn(4)] {
			e.Beat(source, least)
		}
		drain(r.Intn(4))
	}
	for _, source := range r.Perm(3) {
		beat(t, e, source, 2*api.MaxTime)
		drain(r.Intn(4))
	}
	drain(999)
	return writeLists(told)
}

// A query is told of what is released behind its Register, whether that was offered ahead of it or behind it, and whichever source's beat came last.
func TestP10RegisteredWhenTheWatermarkPassed(t *testing.T) {
	early := readEvents(t, "1a 2b@1 3a@1 4a 4b@1")
	late := readEvents(t, "5a@1 5b 6b@1 6a=1 6a=2 9c 9b")
	for ahead := range len(late) + 1 {
		for last := range 2 {
			e := engineOf(t, 2, "a b within 9")
			wantOffer(t, e, len(early), api.OK, early...)
			wantOffer(t, e, ahead, api.OK, late[:ahead]...)
			beat(t, e, 1-last, 5)
			beat(t, e, last, 5)
			wantRegister(t, e, []int{1, 2}, api.OK, 0, "a b within 9", "a !c within 2")
			wantOffer(t, e, len(late)-ahead, api.OK, late[ahead:]...)
			beat(t, e, last, 99)
			beat(t, e, 1-last, 99)
			wantWaiting(t, e, 0, 6)
			wantWaiting(t, e, 1, 3)
			wantWaiting(t, e, 2, 3)
			wantDrain(t, e, 2, "0:1a,2b@1/2 0:3a@1,4b@1/4")
			wantRemove(t, e, 0, api.OK)
			wantDrain(t, e, 9, "1:5a@1,6b@1/6 1:6a=1,6b@1/6 2:5a@1/7 2:6a=1/8 1:6a=2,6b@1/6 2:6a=2/8")
		}
	}
}

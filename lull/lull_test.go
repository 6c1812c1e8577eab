package lull_test

import (
	"math"
	"slices"
	"strings"
	"testing"

	"lull/api"
	"lull/lull"
)

func engine(t *testing.T) *lull.Engine {
	t.Helper()
	e, errno := lull.New(1)
	if e == nil || errno != api.OK {
		t.Fatalf("P3: New(1) = %v, %d", e, errno)
	}
	return e
}

func wantRegister(t *testing.T, e *lull.Engine, numbers []int, errno api.Errno, place int, patterns ...string) {
	t.Helper()
	got, gotErrno, gotPlace := e.Register(patterns...)
	if !slices.Equal(got, numbers) || gotErrno != errno || gotPlace != place {
		t.Errorf("Register(%.100q) = %v, %d, %d, want %v, %d, %d", patterns, got, gotErrno, gotPlace, numbers, errno, place)
	}
}

func wantRemove(t *testing.T, e *lull.Engine, query int, errno api.Errno) {
	t.Helper()
	if got := e.Remove(query); got != errno {
		t.Errorf("Remove(%d) = %d, want %d", query, got, errno)
	}
}

// many is n patterns.
func many(n int) []string { return slices.Repeat([]string{"a within 1"}, n) }

func wantClosed(t *testing.T, name string, e *lull.Engine) {
	t.Helper()
	for _, patterns := range [][]string{nil, {"a within 1"}, {"a within"}, many(api.MaxQueries + 1)} {
		wantRegister(t, e, nil, api.ErrClosed, 0, patterns...)
	}
	for _, number := range []int{math.MinInt, -1, 0, 1, math.MaxInt} {
		wantRemove(t, e, number, api.ErrClosed)
		if got := e.Beat(number, number); got != api.ErrClosed {
			t.Errorf("P1: %s: Beat(%d, %d) = %d", name, number, number, got)
		}
		if e.Runs(number) != 0 || e.Waiting(number) != 0 || len(e.Drain(number)) != 0 {
			t.Errorf("P1: %s: it tells something of %d", name, number)
		}
	}
	for _, events := range [][]api.Event{nil, {{Kind: 'a'}}, {{Source: -1}}} {
		if n, errno := e.Offer(events...); n != 0 || errno != api.ErrClosed {
			t.Errorf("P1: %s: Offer(%v) = %d, %d", name, events, n, errno)
		}
	}
	if e.Watermark() != 0 {
		t.Errorf("P1: %s: Watermark() = %d", name, e.Watermark())
	}
}

func TestP1EngineThatIsNone(t *testing.T) {
	wantClosed(t, "nil", nil)
	wantClosed(t, "new(Engine)", new(lull.Engine))
	refused, _ := lull.New(0)
	wantClosed(t, "New(0)", refused)
}

func TestP1CopyOfAnEngine(t *testing.T) {
	e := engine(t)
	wantRegister(t, e, []int{0, 1}, api.OK, 0, many(2)...)
	dup := *e
	wantClosed(t, "a copy", &dup)
	wantRemove(t, e, 0, api.OK)
	wantRegister(t, e, []int{2}, api.OK, 0, "a within 1")
}

func TestP1NoPanic(t *testing.T) {
	texts := []string{"", " ", "\x00", "\xff\xfe", "!", "-", "a=", "a=-", "!a=", "within", "within within", strings.Repeat(" ", api.MaxText), strings.Repeat("a", 1<<20), "a within " + strings.Repeat("9", 80)}
	for b := range 256 {
		one := string([]byte{byte(b)})
		texts = append(texts, one, one+one, "a"+one, "a "+one, "a="+one, "a within "+one+one)
	}
	e := engine(t)
	for _, text := range texts {
		numbers, errno, place := e.Register(text)
		if errno == api.ErrText && (len(numbers) != 0 || place < 0 || place > len(text)) || errno != api.ErrText && place != 0 {
			t.Errorf("P1: Register(%.40q) = %v, %d, %d", text, numbers, errno, place)
		}
		if errno != api.OK {
			continue
		}
		for _, number := range numbers {
			wantRemove(t, e, number, api.OK)
		}
	}
	for _, number := range []int{math.MinInt, math.MaxInt} {
		wantRemove(t, e, number, api.ErrNone)
	}
}

func TestP1FirstError(t *testing.T) {
	e := engine(t)
	tooMany := many(api.MaxQueries + 5)
	wantRegister(t, e, nil, api.ErrMany, 0, tooMany...)
	tooMany[len(tooMany)-1] = "a within"
	wantRegister(t, e, nil, api.ErrText, 8, tooMany...)
	wantRegister(t, e, []int{0}, api.OK, 0, "a within 1")
}

func TestP2PatternsAreNeitherWrittenNorKept(t *testing.T) {
	e := engine(t)
	room := []string{"a within 5", "b within 5", "spare"}
	want := slices.Clone(room)
	wantRegister(t, e, []int{0, 1}, api.OK, 0, room[:2]...)
	if !slices.Equal(room, want) {
		t.Errorf("P2: Register wrote into its list: %q", room)
	}
	wantRegister(t, e, nil, api.ErrText, 0, room...)
	if !slices.Equal(room, want) {
		t.Errorf("P2: Register wrote into its list: %q", room)
	}
	room[0] = "no pattern"
	wantRegister(t, e, []int{2}, api.OK, 0, "a within 5")
	wantRemove(t, e, 0, api.OK)
}

func TestP2NumbersAreNewMemory(t *testing.T) {
	e := engine(t)
	first, _, _ := e.Register(many(3)...)
	second, _, _ := e.Register(many(3)...)
	overwrite(first)
	if !slices.Equal(second, []int{3, 4, 5}) {
		t.Errorf("P2: two answers share memory: %v", second)
	}
	overwrite(second)
	for number := range 6 {
		wantRemove(t, e, number, api.OK)
	}
	wantRegister(t, e, []int{6}, api.OK, 0, "a within 1")
}

// overwrite writes into a list, its spare room too.
func overwrite(numbers []int) {
	for i := range numbers[:cap(numbers)] {
		numbers[:cap(numbers)][i] = -7
	}
}

func TestP2EnginesKnowNothingOfEachOther(t *testing.T) {
	one, two := engine(t), engine(t)
	wantRegister(t, one, []int{0, 1, 2}, api.OK, 0, many(3)...)
	wantRemove(t, two, 0, api.ErrNone)
	wantRegister(t, two, []int{0}, api.OK, 0, "b within 1")
	wantRemove(t, one, 0, api.OK)
	wantRemove(t, two, 0, api.OK)
	wantRegister(t, one, []int{3, 4, 5, 6, 7, 8, 9, 10}, api.OK, 0, many(api.MaxQueries-2)...)
	wantRegister(t, two, []int{1, 2, 3, 4, 5, 6, 7, 8, 9, 10}, api.OK, 0, many(api.MaxQueries)...)
}

func TestP3New(t *testing.T) {
	for sources := 1; sources <= api.MaxSources; sources++ {
		e, errno := lull.New(sources)
		if e == nil || errno != api.OK {
			t.Fatalf("P3: New(%d) = %v, %d", sources, e, errno)
		}
		wantRemove(t, e, 0, api.ErrNone)
		wantRegister(t, e, []int{0, 1, 2, 3, 4, 5, 6, 7, 8, 9}, api.OK, 0, many(api.MaxQueries)...)
	}
	for _, sources := range []int{math.MinInt, -1, 0, api.MaxSources + 1, 1 << 32, 1<<32 + 1, math.MaxInt} {
		if e, errno := lull.New(sources); e != nil || errno != api.ErrArg {
			t.Errorf("P3: New(%d) = %v, %d, want nil, %d", sources, e, errno, api.ErrArg)
		}
	}
}

func TestP4ExamplesOfTheDocument(t *testing.T) {
	e := engine(t)
	wantRegister(t, e, nil, api.ErrText, 0, "a within 5", "!a b within 5")
	wantRegister(t, e, nil, api.ErrText, 8, "a within")
	wantRegister(t, e, nil, api.ErrText, 5, "a !b !c within 5")
	wantRegister(t, e, nil, api.ErrText, 2, "a  within 5")
	wantRegister(t, e, nil, api.ErrText, 9, "a within 05")
	wantRegister(t, e, nil, api.ErrText, 11, "a within 5 b")
	wantRegister(t, e, nil, api.ErrText, 0, "within 5")
	wantRegister(t, e, []int{0, 1, 2, 3, 4, 5}, api.OK, 0, "a !b c within 5", "a !b within 5", "a a within 9", "a within 0", "a>3 b=-2 within 9", "a !a within 2")
}

func TestP4PlaceIsInTheFirstThatIsNone(t *testing.T) {
	e := engine(t)
	wantRegister(t, e, nil, api.ErrText, 2, "a within 5", "a B within 5", "a", "within")
	wantRegister(t, e, nil, api.ErrText, 1, "a", "a B within 5")
	wantRegister(t, e, nil, api.ErrText, 4, "a within 5", "a within 6", "a b 7")
	wantRegister(t, e, nil, api.ErrText, 0, "a within 5", strings.Repeat("a ", api.MaxText), "a")
}

func TestP4NothingIsRegisteredBesideAnError(t *testing.T) {
	e := engine(t)
	wantRegister(t, e, nil, api.ErrText, 1, "a within 5", "b within 5", "c")
	wantRemove(t, e, 0, api.ErrNone)
	wantRegister(t, e, nil, api.ErrMany, 0, many(api.MaxQueries+1)...)
	wantRemove(t, e, 0, api.ErrNone)
	wantRegister(t, e, []int{0, 1, 2, 3, 4, 5, 6, 7, 8, 9}, api.OK, 0, many(api.MaxQueries)...)
	wantRegister(t, e, nil, api.ErrMany, 0, "a within 5")
	wantRegister(t, e, nil, api.ErrText, 1, "a")
	wantRemove(t, e, 10, api.ErrNone)
	wantRegister(t, e, nil, api.OK, 0)
}

func TestP4NumbersAreNotUsedAgain(t *testing.T) {
	e := engine(t)
	wantRegister(t, e, nil, api.OK, 0)
	wantRegister(t, e, []int{0, 1, 2}, api.OK, 0, many(3)...)
	wantRemove(t, e, 2, api.OK)
	wantRemove(t, e, 0, api.OK)
	wantRegister(t, e, []int{3}, api.OK, 0, "a within 1")
	for number := 3; number < 5000; number++ {
		wantRemove(t, e, number, api.OK)
		wantRegister(t, e, []int{number + 1}, api.OK, 0, "a within 1")
	}
}

func TestP5Remove(t *testing.T) {
	e := engine(t)
	wantRemove(t, e, 0, api.ErrNone)
	wantRegister(t, e, []int{0, 1, 2, 3, 4, 5, 6, 7, 8, 9}, api.OK, 0, many(api.MaxQueries)...)
	for _, query := range []int{-1, 10, math.MinInt, math.MaxInt, 1 << 32} {
		wantRemove(t, e, query, api.ErrNone)
	}
	for _, query := range []int{4, 0, 9} {
		wantRemove(t, e, query, api.OK)
		wantRemove(t, e, query, api.ErrNone)
	}
	wantRegister(t, e, nil, api.ErrMany, 0, many(4)...)
	wantRegister(t, e, []int{10, 11, 12}, api.OK, 0, many(3)...)
	for _, query := range []int{12, 1, 2, 3, 5, 6, 7, 8, 10, 11} {
		wantRemove(t, e, query, api.OK)
	}
	for query := range 14 {
		wantRemove(t, e, query, api.ErrNone)
	}
}

package pattern

import (
	"reflect"
	"regexp"
	"strconv"
	"strings"
	"testing"

	"lull/api"
)

func must(kind, sign byte, number int) Step    { return Must{condition{kind, sign, number}} }
func mustNot(kind, sign byte, number int) Step { return MustNot{condition{kind, sign, number}} }

func TestParseReadsPatterns(t *testing.T) {
	for _, c := range []struct {
		text string
		want Pattern
	}{
		{"a within 0", Pattern{[]Step{must('a', 0, 0)}, 0}},
		{"z within 1000", Pattern{[]Step{must('z', 0, 0)}, 1000}},
		{"w within 10", Pattern{[]Step{must('w', 0, 0)}, 10}},
		{"a !b c within 5", Pattern{[]Step{must('a', 0, 0), mustNot('b', 0, 0), must('c', 0, 0)}, 5}},
		{"a !b within 5", Pattern{[]Step{must('a', 0, 0), mustNot('b', 0, 0)}, 5}},
		{"a>3 b=-2 within 9", Pattern{[]Step{must('a', '>', 3), must('b', '=', -2)}, 9}},
		{"a<0 !b>1000 c=-1000 within 999", Pattern{[]Step{must('a', '<', 0), mustNot('b', '>', 1000), must('c', '=', -1000)}, 999}},
		{"a !a a !a a !a a !a within 1", Pattern{[]Step{must('a', 0, 0), mustNot('a', 0, 0), must('a', 0, 0), mustNot('a', 0, 0), must('a', 0, 0), mustNot('a', 0, 0), must('a', 0, 0), mustNot('a', 0, 0)}, 1}},
	} {
		got, place, ok := Parse(c.text)
		if !ok || place != 0 || !reflect.DeepEqual(got, c.want) {
			t.Errorf("P4: Parse(%q) = %v, %d, %v, want %v", c.text, got, place, ok, c.want)
		}
	}
}

func TestParseTellsPlaces(t *testing.T) {
	for _, c := range []struct {
		text  string
		place int
	}{
		// It ends too early.
		{"a", 1}, {"a !b", 4}, {"a b c d e f g h", 15}, {"a within", 8},
		// An empty word.
		{"", 0}, {" ", 0}, {" a within 5", 0}, {"a ", 2}, {"a  within 5", 2}, {"a within  5", 9}, {"a within ", 9}, {"a within 5 ", 11}, {"a within 5  ", 11},
		// A word in the wrong place.
		{"within 5", 0}, {"5", 0}, {"a 5", 2}, {"a within b 5", 9}, {"a within within 5", 9}, {"a within 5 b", 11}, {"a within 5 within 5", 11}, {"a within 5 6", 11},
		{"!a b within 5", 0}, {"!a", 0}, {"a !b !c within 5", 5}, {"a b !c !d", 7}, {"a !b !", 5},
		{"a b c d e f g h i within 5", 16}, {"a b c d e f g h !i within 5", 16}, {"a !b c !d e !f g !h i within 5", 20},
		// A word that is no step.
		{"A within 5", 0}, {"` within 5", 0}, {"{ within 5", 0}, {"ab within 5", 0}, {"a aa within 5", 2}, {"a ! within 5", 2}, {"a !! within 5", 2}, {"a !!b within 5", 2}, {"a b! within 5", 2}, {"a =1 within 5", 2}, {"a 1<a within 5", 2},
		{"a b< within 5", 2}, {"a b=- within 5", 2}, {"a b=-0 within 5", 2}, {"a b=00 within 5", 2}, {"a b=01 within 5", 2}, {"a b=-01 within 5", 2}, {"a b=--1 within 5", 2}, {"a b=+1 within 5", 2}, {"a b=1001 within 5", 2}, {"a b=-1001 within 5", 2}, {"a b<=1 within 5", 2}, {"a b==1 within 5", 2}, {"a b=1x within 5", 2}, {"a b=x within 5", 2}, {"a b=1.0 within 5", 2}, {"a b:1 within 5", 2}, {"a b=18446744073709551617 within 5", 2},
		{"a Within 5", 2}, {"a !within 5", 2}, {"a withi 5", 2}, {"a within5", 2},
		// A word that is no number.
		{"a within 1001", 9}, {"a within 05", 9}, {"a within 00", 9}, {"a within -1", 9}, {"a within -0", 9}, {"a within +1", 9}, {"a within 1e2", 9}, {"a within 0x1", 9}, {"a within 5,", 9}, {"a within /", 9}, {"a within :", 9}, {"a within 18446744073709551617", 9},
		// Bytes that are no blank.
		{"a\twithin 5", 0}, {"a within\t5", 2}, {"a within 5\n", 9}, {"a\u00a0within 5", 0}, {"\x00", 0}, {"a \xff within 5", 2}, {"a é within 5", 2}, {"a within ٥", 9},
	} {
		got, place, ok := Parse(c.text)
		if ok || place != c.place || !reflect.DeepEqual(got, Pattern{}) {
			t.Errorf("P4: Parse(%q) = %v, %d, %v, want the place %d", c.text, got, place, ok, c.place)
		}
	}
}

func TestParseLength(t *testing.T) {
	for _, c := range []struct {
		text  string
		place int
	}{
		{"a " + strings.Repeat("b", api.MaxText-2), 2},
		{"a " + strings.Repeat("b", api.MaxText-1), 0},
		{"a within " + strings.Repeat("1", api.MaxText-9), 9},
		{"a within " + strings.Repeat("1", api.MaxText-8), 0},
		{"a within 5" + strings.Repeat(" ", api.MaxText-10), 11},
		{"a within 5" + strings.Repeat(" ", api.MaxText-9), 0},
		{strings.Repeat("a ", 1<<20), 0},
	} {
		if _, place, ok := Parse(c.text); ok || place != c.place {
			t.Errorf("P4: Parse of %d bytes (%.20q) = %d, %v, want the place %d", len(c.text), c.text, place, ok, c.place)
		}
	}
}

var (
	stepWord   = regexp.MustCompile(`^!?[a-z]([<=>](0|-?[1-9][0-9]{0,2}|-?1000))?$`)
	numberWord = regexp.MustCompile(`^(0|[1-9][0-9]{0,2}|1000)$`)
	wholeEnd   = regexp.MustCompile(` within [0-9]+$`)
)

// reference is the document's grammar told another way, by regular expressions.
func reference(text string) (int, bool) {
	place, within, before := 0, -1, "!"
	for i, word := range strings.Split(text, " ") {
		fits := false
		switch {
		case within < 0 && word == "within":
			within = i
			fits = i > 0
		case within < 0:
			twoForbidden := strings.HasPrefix(before, "!") && strings.HasPrefix(word, "!")
			fits = i < api.MaxSteps && stepWord.MatchString(word) && !twoForbidden
		case i == within+1:
			fits = numberWord.MatchString(word)
		}
		if !fits {
			return place, false
		}
		before = word
		place += len(word) + 1
	}
	if !wholeEnd.MatchString(text) {
		return len(text), false
	}
	return 0, true
}

func wantAsReference(t *testing.T, text string) (ok bool) {
	t.Helper()
	place, ok := reference(text)
	if _, gotPlace, gotOk := Parse(text); gotPlace != place || gotOk != ok {
		t.Fatalf("P4: Parse(%q) = %d, %v, want %d, %v", text, gotPlace, gotOk, place, ok)
	}
	return ok
}

// TestParseRowsOfWords joins some words in all rows of up to five.
func TestParseRowsOfWords(t *testing.T) {
	words := []string{"a", "!b", "c<-7", "!d>1000", "within", "5", "05", "", "ef"}
	patterns := 0
	var walk func(text string, left int)
	walk = func(text string, left int) {
		if wantAsReference(t, text) {
			patterns++
		}
		for _, word := range words {
			if left > 0 {
				walk(text+" "+word, left-1)
			}
		}
	}
	for _, word := range words {
		walk(word, 4)
	}
	if patterns == 0 {
		t.Error("no row of words was a pattern")
	}
}

// TestParseNumbers sets all rows of up to five of some bytes in the places of numbers.
func TestParseNumbers(t *testing.T) {
	var walk func(number string, left int)
	walk = func(number string, left int) {
		wantAsReference(t, "a b="+number+" within 5")
		wantAsReference(t, "a !b<"+number+" within 5")
		wantAsReference(t, "a within "+number)
		for _, b := range []string{"0", "1", "9", "-", "x"} {
			if left > 0 {
				walk(number+b, left-1)
			}
		}
	}
	walk("", 5)
	for number := range 2 * api.MaxWithin {
		wantAsReference(t, "a within "+strconv.Itoa(number))
		wantAsReference(t, "a>"+strconv.Itoa(number)+" within 5")
		wantAsReference(t, "a>"+strconv.Itoa(-number)+" within 5")
	}
}

func TestMatches(t *testing.T) {
	for _, c := range []struct {
		step  string
		kind  byte
		value int
		want  bool
	}{
		{"a", 'a', 0, true}, {"a", 'a', -1000, true}, {"a", 'a', 1000, true}, {"a", 'b', 0, false},
		{"a<3", 'a', 2, true}, {"a<3", 'a', 3, false}, {"a<3", 'a', 4, false}, {"a<3", 'b', 2, false},
		{"a=3", 'a', 2, false}, {"a=3", 'a', 3, true}, {"a=3", 'a', 4, false}, {"a=3", 'b', 3, false}, {"a=3", 'a', -3, false},
		{"a>3", 'a', 2, false}, {"a>3", 'a', 3, false}, {"a>3", 'a', 4, true}, {"a>3", 'b', 4, false},
		{"a<-2", 'a', -3, true}, {"a<-2", 'a', -2, false}, {"a=-2", 'a', -2, true}, {"a>-2", 'a', -2, false}, {"a>-2", 'a', -1, true},
		{"a=0", 'a', 0, true}, {"a=0", 'a', 1, false},
	} {
		event := api.Event{Time: 7, Kind: c.kind, Value: c.value}
		p, _, ok := Parse("a !" + c.step + " " + c.step + " within 5")
		if !ok {
			t.Fatalf("%q is no step", c.step)
		}
		for _, step := range p.Steps[1:] {
			if got := step.Matches(event); got != c.want {
				t.Errorf("%q matches %c %d: %v, want %v", c.step, c.kind, c.value, got, c.want)
			}
		}
	}
}

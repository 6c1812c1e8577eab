package pattern

import (
	"strings"

	"lull/api"
)

// Step is a step of a pattern: a Must or a MustNot, told apart by a type switch.
type Step interface {
	Matches(event api.Event) bool
}

// Must is a step that must come.
type Must struct{ condition }

// MustNot is a step that must not come.
type MustNot struct{ condition }

// condition is what an event must be to match: sign is '<', '=' or '>', or 0 where any value will do.
type condition struct {
	kind   byte
	sign   byte
	number int
}

// Matches tells whether the event is of the kind, and its value as it is asked for.
func (c condition) Matches(event api.Event) bool {
	return event.Kind == c.kind && c.holds(event.Value)
}

func (c condition) holds(value int) bool {
	switch c.sign {
	case '<':
		return value < c.number
	case '=':
		return value == c.number
	case '>':
		return value > c.number
	default:
		return true
	}
}

func readStep(word string) (Step, bool) {
	rest, forbidden := strings.CutPrefix(word, "!")
	c, ok := readCondition(rest)
	if !ok {
		return nil, false
	}
	if forbidden {
		return MustNot{c}, true
	}
	return Must{c}, true
}

func readCondition(word string) (condition, bool) {
	if word == "" || word[0] < 'a' || word[0] > 'z' {
		return condition{}, false
	}
	if len(word) == 1 {
		return condition{kind: word[0]}, true
	}
	if !isSign(word[1]) {
		return condition{}, false
	}
	number, ok := readValue(word[2:])
	return condition{kind: word[0], sign: word[1], number: number}, ok
}

func isSign(b byte) bool {
	return b == '<' || b == '=' || b == '>'
}

func readValue(word string) (int, bool) {
	digits, negative := strings.CutPrefix(word, "-")
	number, ok := readNumber(digits, api.MaxValue)
	if !negative {
		return number, ok
	}
	return -number, ok && number != 0
}

// readNumber reads a number from 0 to most. It stops at the first digit too many, since the digits that may stand in a text are more than an int can hold.
func readNumber(digits string, most int) (int, bool) {
	if digits == "" || digits[0] == '0' && digits != "0" {
		return 0, false
	}
	number := 0
	for i := range len(digits) {
		if digits[i] < '0' || digits[i] > '9' {
			return 0, false
		}
		number = 10*number + int(digits[i]-'0')
		if number > most {
			return 0, false
		}
	}
	return number, true
}

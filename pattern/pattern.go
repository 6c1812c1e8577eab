// Package pattern reads the texts of patterns.
package pattern

import (
	"strings"

	"lull/api"
)

// Pattern is what its text says.
type Pattern struct {
	Steps  []Step
	Within int
}

// Parse reads a text. If it is no pattern, ok is false, and place tells where it fails to be one.
func Parse(text string) (p Pattern, place int, ok bool) {
	if len(text) > api.MaxText {
		return Pattern{}, 0, false
	}
	var r reader
	for _, word := range strings.Split(text, " ") {
		if !r.take(word) {
			return Pattern{}, place, false
		}
		place += len(word) + len(" ")
	}
	if r.awaits != awaitsEnd {
		return Pattern{}, len(text), false
	}
	return r.pattern, 0, true
}

type awaited int

const (
	awaitsStep awaited = iota
	awaitsNumber
	awaitsEnd
)

// reader is what was read of a pattern so far, and what may stand next.
type reader struct {
	pattern Pattern
	awaits  awaited
}

// take reads the next word; false, if it can't stand there.
func (r *reader) take(word string) bool {
	switch r.awaits {
	case awaitsStep:
		if word == "within" {
			return r.takeWithin()
		}
		return r.takeStep(word)
	case awaitsNumber:
		return r.takeNumber(word)
	default:
		return false
	}
}

func (r *reader) takeWithin() bool {
	r.awaits = awaitsNumber
	return len(r.pattern.Steps) > 0
}

func (r *reader) takeStep(word string) bool {
	step, ok := readStep(word)
	if !ok || !mayFollow(r.pattern.Steps, step) {
		return false
	}
	r.pattern.Steps = append(r.pattern.Steps, step)
	return true
}

func (r *reader) takeNumber(word string) bool {
	number, ok := readNumber(word, api.MaxWithin)
	r.pattern.Within = number
	r.awaits = awaitsEnd
	return ok
}

func mayFollow(steps []Step, next Step) bool {
	if len(steps) >= api.MaxSteps {
		return false
	}
	switch next.(type) {
	case MustNot:
		return endInMust(steps)
	default:
		return true
	}
}

func endInMust(steps []Step) bool {
	if len(steps) == 0 {
		return false
	}
	switch steps[len(steps)-1].(type) {
	case Must:
		return true
	default:
		return false
	}
}

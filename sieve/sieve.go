// Package sieve tells which rows a list of tests says yes to.
package sieve

import (
	"seam/api"
	"seam/column"
	"seam/fault"
)

// Sieve is a list of tests that may be. It reads the lists that it was made of, and so is not to be kept longer than the call that brought them.
type Sieve struct {
	schema []int
	tests  []api.Test
}

// New refuses tests that may not be.
func New(schema []int, tests []api.Test) (Sieve, error) {
	if len(tests) > api.MaxTests {
		return Sieve{}, fault.Refuse("too many tests", api.BadTest, -1)
	}
	answers := 0
	for i, test := range tests {
		if why := wrong(schema, test, answers); why != "" {
			return Sieve{}, fault.Refuse(why, api.BadTest, i)
		}
		answers += 1 - takes(test.Do)
	}
	if len(tests) > 0 && answers != 1 {
		return Sieve{}, fault.Refuse("not just one answer is left", api.BadTest, len(tests))
	}
	return Sieve{schema: schema, tests: tests}, nil
}

// wrong says why a test may not be where there are so many answers ahead of it; nothing, if it may.
func wrong(schema []int, test api.Test, answers int) string {
	switch test.Do {
	case api.Same, api.Other, api.Below, api.AtMost, api.Above, api.AtLeast:
		if test.Column < 0 || test.Column >= len(schema) {
			return "a test asks of a column that there is not"
		}
		if !column.Fits(schema[test.Column], test.V) {
			return "a test's value does not fit its column"
		}
	case api.And, api.Or, api.Not:
		if answers < takes(test.Do) {
			return "a test takes more answers away than there are"
		}
	default:
		return "a test has no such deed"
	}
	return ""
}

// takes: how many answers a deed takes away, ahead of putting its own.
func takes(deed int) int {
	switch deed {
	case api.And, api.Or:
		return 2
	case api.Not:
		return 1
	}
	return 0
}

// Passes tells whether the tests say yes to a row of the schema.
func (s Sieve) Passes(row []api.Value) bool {
	var room [api.MaxTests]bool
	answers := room[:0]
	for _, test := range s.tests {
		answers = s.answer(answers, test, row)
	}
	return len(answers) == 0 || answers[0]
}

// answer puts one test's answer behind those that there are, less those that it takes away.
func (s Sieve) answer(answers []bool, test api.Test, row []api.Value) []bool {
	last := len(answers) - 1
	switch test.Do {
	case api.And:
		answers[last-1] = answers[last-1] && answers[last]
		return answers[:last]
	case api.Or:
		answers[last-1] = answers[last-1] || answers[last]
		return answers[:last]
	case api.Not:
		answers[last] = !answers[last]
		return answers
	}
	at := test.Column
	return append(answers, column.Holds(s.schema[at], test.Do, row[at], test.V))
}

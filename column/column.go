// Package column knows the types of columns: which of them make a schema, which values fit them, and how their values compare.
package column

import (
	"cmp"
	"math"

	"seam/api"
	"seam/fault"
)

// CheckSchema refuses what is no schema.
func CheckSchema(schema []int) error {
	for i, kind := range schema {
		if !IsType(kind) {
			return fault.Refuse("a column is of no type", api.BadSchema, i)
		}
	}
	if len(schema) < 1 || len(schema) > api.MaxColumns {
		return fault.Refuse("too many columns, or none", api.BadSchema, -1)
	}
	return nil
}

// IsType tells whether there is such a type of columns.
func IsType(kind int) bool {
	switch kind {
	case api.Int, api.Real, api.Text, api.Flag:
		return true
	}
	return false
}

// Fits tells whether a value may stand in a column of that type.
func Fits(kind int, v api.Value) bool {
	switch kind {
	case api.Int, api.Real:
		return v.S == ""
	case api.Text:
		return v.N == 0 && len(v.S) <= api.MaxText
	case api.Flag:
		return v.S == "" && (v.N == 0 || v.N == 1)
	}
	return false
}

// Holds tells whether v is to other what the deed asks; both fit that type.
func Holds(kind, deed int, v, other api.Value) bool {
	switch kind {
	case api.Real:
		return holds(deed, number(v), number(other))
	case api.Text:
		return holds(deed, v.S, other.S)
	}
	return holds(deed, v.N, other.N)
}

// Least tells which of two values none is ahead of: the first one, if that is both. Both fit that type.
// Of Real values cmp.Less has the order that is asked for; min and max would take -0 ahead of 0, and what is no number for the most too. Other values have N or S alone, and none ahead of each other only if they are the same.
func Least(kind int, first, second api.Value) api.Value {
	if kind == api.Real {
		if cmp.Less(number(second), number(first)) {
			return second
		}
		return first
	}
	return api.Value{N: min(first.N, second.N), S: min(first.S, second.S)}
}

// Most tells which of two values none is behind: the first one, if that is both. Both fit that type.
func Most(kind int, first, second api.Value) api.Value {
	if kind == api.Real {
		if cmp.Less(number(first), number(second)) {
			return second
		}
		return first
	}
	return api.Value{N: max(first.N, second.N), S: max(first.S, second.S)}
}

func number(v api.Value) float64 { return math.Float64frombits(uint64(v.N)) }

// holds uses an operator for each deed, not the answer of one comparison: to what is no number all but Other says no, so that no deed is another one's opposite.
func holds[T cmp.Ordered](deed int, a, b T) bool {
	switch deed {
	case api.Same:
		return a == b
	case api.Other:
		return a != b
	case api.Below:
		return a < b
	case api.AtMost:
		return a <= b
	case api.Above:
		return a > b
	case api.AtLeast:
		return a >= b
	}
	return false
}

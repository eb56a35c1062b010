// Package tally makes one value of many: their sum, the least of them, the most of them.
package tally

import (
	"seam/api"
	"seam/column"
	"seam/fault"
)

// Tally is what has come of the values so far.
type Tally struct {
	kind, how int
	value     api.Value
	count     int
}

// New refuses what cannot be made of that column.
func New(schema []int, at, how int) (*Tally, error) {
	if at < 0 || at >= len(schema) {
		return nil, fault.Refuse("there is no such column", api.BadColumn, at)
	}
	switch how {
	case api.Sum:
		if schema[at] != api.Int {
			return nil, fault.Refuse("only an Int's values have a sum", api.BadColumn, at)
		}
	case api.Least, api.Most:
	default:
		return nil, fault.Refuse("there is no such way to fold", api.BadColumn, at)
	}
	return &Tally{kind: schema[at], how: how}, nil
}

// Add takes in one more value, behind the others.
func (t *Tally) Add(v api.Value) {
	t.count++
	switch {
	case t.count == 1:
		t.value = v
	case t.how == api.Sum:
		t.value.N += v.N
	case t.how == api.Least:
		t.value = column.Least(t.kind, t.value, v)
	case t.how == api.Most:
		t.value = column.Most(t.kind, t.value, v)
	}
}

// Result tells what has come of the values, and how many they were.
func (t *Tally) Result() (api.Value, int) { return t.value, t.count }

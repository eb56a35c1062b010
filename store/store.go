// Package store keeps a table's rows, in the order in which they came.
package store

import (
	"iter"
	"slices"
	"strings"

	"seam/api"
	"seam/column"
	"seam/fault"
	"seam/sieve"
	"seam/tally"
)

// Store is the rows of one table.
type Store struct {
	schema []int
	fresh  [][]api.Value
}

// New makes a store without rows.
func New(schema []int) (*Store, error) {
	for i, kind := range schema {
		if !column.IsType(kind) {
			return nil, fault.Refuse("a column is of no type", api.BadSchema, i)
		}
	}
	if len(schema) < 1 || len(schema) > api.MaxColumns {
		return nil, fault.Refuse("too many columns, or none", api.BadSchema, -1)
	}
	return &Store{schema: slices.Clone(schema)}, nil
}

// Append puts a row behind the others.
func (s *Store) Append(row []api.Value) error {
	if err := s.check(row); err != nil {
		return err
	}
	if len(s.fresh) >= api.MaxRows {
		return fault.Refuse("the table is full", api.BadMany, 0)
	}
	s.fresh = append(s.fresh, apart(row))
	return nil
}

// check refuses what is no row of the schema.
func (s *Store) check(row []api.Value) error {
	if len(row) != len(s.schema) {
		return fault.Refuse("a row has not a value for each column", api.BadRow, -1)
	}
	for i, v := range row {
		if !column.Fits(s.schema[i], v) {
			return fault.Refuse("a value does not fit its column", api.BadRow, i)
		}
	}
	return nil
}

// Scan tells all rows to which the tests say yes.
func (s *Store) Scan(tests []api.Test) ([][]api.Value, error) {
	asked, err := sieve.New(s.schema, tests)
	if err != nil {
		return nil, err
	}
	var found [][]api.Value
	for row := range s.passing(asked) {
		found = append(found, apart(row))
	}
	return found, nil
}

// Delete takes out all rows to which the tests say yes, and tells how many they were.
func (s *Store) Delete(tests []api.Test) (int, error) {
	asked, err := sieve.New(s.schema, tests)
	if err != nil {
		return 0, err
	}
	kept := s.fresh[:0]
	for _, row := range s.fresh {
		if !asked.Passes(row) {
			kept = append(kept, row)
		}
	}
	gone := s.fresh[len(kept):]
	clear(gone)
	s.fresh = kept
	return len(gone), nil
}

// Fold makes one value of a column's, in those rows to which the tests say yes, and tells how many they were.
func (s *Store) Fold(tests []api.Test, at, how int) (api.Value, int, error) {
	asked, err := sieve.New(s.schema, tests)
	if err != nil {
		return api.Value{}, 0, err
	}
	made, err := tally.New(s.schema, at, how)
	if err != nil {
		return api.Value{}, 0, err
	}
	for row := range s.passing(asked) {
		made.Add(row[at])
	}
	value, count := made.Result()
	return value, count, nil
}

// passing goes through the rows to which the tests say yes, in their order.
func (s *Store) passing(asked sieve.Sieve) iter.Seq[[]api.Value] {
	return func(yield func([]api.Value) bool) {
		for _, row := range s.fresh {
			if asked.Passes(row) && !yield(row) {
				return
			}
		}
	}
}

// apart copies a row, texts too: a short text that is a piece of a long one would keep all of it.
func apart(row []api.Value) []api.Value {
	values := make([]api.Value, len(row))
	for i, v := range row {
		values[i] = api.Value{N: v.N, S: strings.Clone(v.S)}
	}
	return values
}

// Package store keeps a table's rows, in the order in which they came.
package store

import (
	"slices"
	"strings"

	"seam/api"
	"seam/column"
	"seam/fault"
	"seam/sieve"
)

// Store is the rows of one table.
type Store struct {
	schema []int
	fresh  [][]api.Value
}

// New makes a store without rows.
func New(schema []int) (*Store, error) {
	for i, kind := range schema {
		if !column.IsType(kind) {
			return nil, fault.Refuse("a column is of no type", api.BadSchema, i)
		}
	}
	if len(schema) < 1 || len(schema) > api.MaxColumns {
		return nil, fault.Refuse("too many columns, or none", api.BadSchema, -1)
	}
	return &Store{schema: slices.Clone(schema)}, nil
}

// Append puts a row behind the others.
func (s *Store) Append(row []api.Value) error {
	if err := s.check(row); err != nil {
		return err
	}
	if len(s.fresh) >= api.MaxRows {
		return fault.Refuse("the table is full", api.BadMany, 0)
	}
	s.fresh = append(s.fresh, apart(row))
	return nil
}

// check refuses what is no row of the schema.
func (s *Store) check(row []api.Value) error {
	if len(row) != len(s.schema) {
		return fault.Refuse("a row has not a value for each column", api.BadRow, -1)
	}
	for i, v := range row {
		if !column.Fits(s.schema[i], v) {
			return fault.Refuse("a value does not fit its column", api.BadRow, i)
		}
	}
	return nil
}

// Scan tells all rows to which the tests say yes.
func (s *Store) Scan(tests []api.Test) ([][]api.Value, error) {
	asked, err := sieve.New(s.schema, tests)
	if err != nil {
		return nil, err
	}
	var found [][]api.Value
	for _, row := range s.fresh {
		if asked.Passes(row) {
			found = append(found, apart(row))
		}
	}
	return found, nil
}

// apart copies a row, texts too: a short text that is a piece of a long one would keep all of it.
func apart(row []api.Value) []api.Value {
	values := make([]api.Value, len(row))
	for i, v := range row {
		values[i] = api.Value{N: v.N, S: strings.Clone(v.S)}
	}
	return values
}

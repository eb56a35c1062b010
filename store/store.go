// Package store keeps a table's rows, in the order in which they came.
package store

import (
	"iter"
	"slices"
	"strings"

	"seam/api"
	"seam/column"
	"seam/dump"
	"seam/fault"
	"seam/segment"
	"seam/sieve"
	"seam/tally"
)

// Store is the rows of one table: those in segments, and behind them the fresh ones.
type Store struct {
	schema   []int
	segments []*segment.Segment
	fresh    [][]api.Value
}

// New makes a store without rows.
func New(schema []int) (*Store, error) {
	if err := column.CheckSchema(schema); err != nil {
		return nil, err
	}
	return &Store{schema: slices.Clone(schema)}, nil
}

// Load makes a store of what Dump told.
func Load(bytes string) (*Store, error) {
	schema, segments, err := dump.Read(bytes)
	if err != nil {
		return nil, err
	}
	return &Store{schema: schema, segments: segments}, nil
}

// Append puts a row behind the others.
func (s *Store) Append(row []api.Value) error {
	if err := s.check(row); err != nil {
		return err
	}
	if s.count() >= api.MaxRows {
		return fault.Refuse("the table is full", api.BadMany, 0)
	}
	s.fresh = append(s.fresh, apart(row))
	return nil
}

// count tells how many rows there are, without those that were deleted.
func (s *Store) count() int {
	rows := len(s.fresh)
	for _, some := range s.segments {
		rows += some.Live()
	}
	return rows
}

// check refuses what is no row of the schema.
func (s *Store) check(row []api.Value) error {
	if len(row) != len(s.schema) {
		return fault.Refuse("a row has not a value for each column", api.BadRow, -1)
	}
	for i, v := range row {
		if !column.Fits(s.schema[i], v) {
			return fault.Refuse("a value does not fit its column", api.BadRow, i)
		}
	}
	return nil
}

// Scan tells all rows to which the tests say yes.
func (s *Store) Scan(tests []api.Test) ([][]api.Value, error) {
	asked, err := sieve.New(s.schema, tests)
	if err != nil {
		return nil, err
	}
	var found [][]api.Value
	for row := range s.passing(asked) {
		found = append(found, apart(row))
	}
	return found, nil
}

// Delete takes out all rows to which the tests say yes, and tells how many they were.
func (s *Store) Delete(tests []api.Test) (int, error) {
	asked, err := sieve.New(s.schema, tests)
	if err != nil {
		return 0, err
	}
	return s.dropOld(asked) + s.dropFresh(asked), nil
}

// dropOld takes rows out of the segments. A segment that has none any more goes at once: else they would become more and more.
func (s *Store) dropOld(asked sieve.Sieve) int {
	dropped := 0
	for i, part := range segment.Find(s.segments, asked.Passes) {
		s.segments[i].Drop(part.Places)
		dropped += len(part.Places)
	}
	s.segments = slices.DeleteFunc(s.segments, func(some *segment.Segment) bool { return some.Live() == 0 })
	return dropped
}

func (s *Store) dropFresh(asked sieve.Sieve) int {
	kept := s.fresh[:0]
	for _, row := range s.fresh {
		if !asked.Passes(row) {
			kept = append(kept, row)
		}
	}
	gone := s.fresh[len(kept):]
	clear(gone)
	s.fresh = kept
	return len(gone)
}

// Fold makes one value of a column's, in those rows to which the tests say yes, and tells how many they were.
func (s *Store) Fold(tests []api.Test, at, how int) (api.Value, int, error) {
	asked, err := sieve.New(s.schema, tests)
	if err != nil {
		return api.Value{}, 0, err
	}
	made, err := tally.New(s.schema, at, how)
	if err != nil {
		return api.Value{}, 0, err
	}
	for row := range s.passing(asked) {
		made.Add(row[at])
	}
	value, count := made.Result()
	return value, count, nil
}

// Flush puts the fresh rows into segments.
func (s *Store) Flush() {
	s.segments = append(s.segments, segment.Cut(s.schema, s.fresh)...)
	clear(s.fresh)
	s.fresh = s.fresh[:0]
}

// Merge writes the segments anew, as few as can be, without what was deleted.
func (s *Store) Merge() {
	var rows [][]api.Value
	for _, part := range segment.Find(s.segments, func([]api.Value) bool { return true }) {
		rows = append(rows, part.Rows...)
	}
	s.segments = segment.Cut(s.schema, rows)
}

// Dump flushes, and tells the store as bytes.
func (s *Store) Dump() string {
	s.Flush()
	return dump.Write(s.schema, s.segments)
}

// passing goes through the rows to which the tests say yes, in their order.
func (s *Store) passing(asked sieve.Sieve) iter.Seq[[]api.Value] {
	return func(yield func([]api.Value) bool) {
		for _, part := range segment.Find(s.segments, asked.Passes) {
			for _, row := range part.Rows {
				if !yield(row) {
					return
				}
			}
		}
		for _, row := range s.fresh {
			if asked.Passes(row) && !yield(row) {
				return
			}
		}
	}
}

// apart copies a row, texts too: a short text that is a piece of a long one would keep all of it.
func apart(row []api.Value) []api.Value {
	values := make([]api.Value, len(row))
	for i, v := range row {
		values[i] = api.Value{N: v.N, S: strings.Clone(v.S)}
	}
	return values
}

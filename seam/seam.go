// Package seam: a table that keeps its columns apart and small: see DOC.md.
package seam

import (
	"errors"

	"seam/api"
	"seam/store"
)

// Table is one.
type Table struct {
	store *store.Store
}

// New makes a table without rows (P3).
func New(schema []int) (*Table, error) {
	made, err := store.New(schema)
	if err != nil {
		return nil, faultIn(err)
	}
	return &Table{store: made}, nil
}

// Append puts a row behind the others (P4).
func (t *Table) Append(row []api.Value) error { return faultIn(t.store.Append(row)) }

// Scan tells all rows for which the tests say yes (P5).
func (t *Table) Scan(tests []api.Test) ([][]api.Value, error) {
	rows, err := t.store.Scan(tests)
	return rows, faultIn(err)
}

// Delete takes out all rows for which the tests say yes (P6).
func (t *Table) Delete(tests []api.Test) (int, error) {
	count, err := t.store.Delete(tests)
	return count, faultIn(err)
}

// Fold makes one value of a column's (P7).
func (t *Table) Fold(tests []api.Test, column int, how int) (api.Value, int, error) {
	value, count, err := t.store.Fold(tests, column, how)
	return value, count, faultIn(err)
}

// Flush puts all fresh rows into segments (P8).
func (t *Table) Flush() { t.store.Flush() }

// Merge writes segments anew (P8).
func (t *Table) Merge() { t.store.Merge() }

// Dump tells the table as bytes (P9).
func (t *Table) Dump() string { return t.store.Dump() }

// Load reads a table (P9).
func Load(bytes string) (*Table, error) {
	read, err := store.Load(bytes)
	if err != nil {
		return nil, faultIn(err)
	}
	return &Table{store: read}, nil
}

// faultIn finds the fault that an inner error wraps: callers are promised the fault itself, and nothing around it.
func faultIn(err error) error {
	var found *api.Fault
	if errors.As(err, &found) {
		return found
	}
	return err
}

package seam_test

import (
	"math"
	"slices"
	"testing"

	"seam/api"
	"seam/seam"
)

// isFault: the error is that fault itself, with nothing around it.
func isFault(t *testing.T, what string, err error, kind, at int) {
	t.Helper()
	found, is := err.(*api.Fault)
	if !is || found == nil || *found != (api.Fault{Kind: kind, At: at}) {
		t.Errorf("%s: %#v, want fault %d, %d", what, err, kind, at)
	}
}

func newTable(t *testing.T, schema ...int) *seam.Table {
	t.Helper()
	table, err := seam.New(schema)
	if err != nil || table == nil {
		t.Fatalf("New(%v): %v, %v", schema, table, err)
	}
	return table
}

func appendAll(t *testing.T, table *seam.Table, rows ...[]api.Value) {
	t.Helper()
	for _, row := range rows {
		if err := table.Append(row); err != nil {
			t.Fatalf("Append(%v): %v", row, err)
		}
	}
}

func scanIs(t *testing.T, table *seam.Table, tests []api.Test, want ...[]api.Value) {
	t.Helper()
	got, err := table.Scan(tests)
	if err != nil || !slices.EqualFunc(got, want, slices.Equal) {
		t.Errorf("Scan(%v): %v, %v, want %v", tests, got, err, want)
	}
}

func scanFails(t *testing.T, table *seam.Table, tests []api.Test, at int) {
	t.Helper()
	got, err := table.Scan(tests)
	isFault(t, "Scan", err, api.BadTest, at)
	if len(got) != 0 {
		t.Errorf("Scan(%v): rows beside an error: %v", tests, got)
	}
}

func deleteIs(t *testing.T, table *seam.Table, tests []api.Test, want int) {
	t.Helper()
	if got, err := table.Delete(tests); err != nil || got != want {
		t.Errorf("Delete(%v): %d, %v, want %d", tests, got, err, want)
	}
}

func deleteFails(t *testing.T, table *seam.Table, tests []api.Test, at int) {
	t.Helper()
	got, err := table.Delete(tests)
	isFault(t, "Delete", err, api.BadTest, at)
	if got != 0 {
		t.Errorf("Delete(%v): %d beside an error", tests, got)
	}
}

func foldIs(t *testing.T, table *seam.Table, tests []api.Test, column, how int, want api.Value, rows int) {
	t.Helper()
	if got, count, err := table.Fold(tests, column, how); err != nil || got != want || count != rows {
		t.Errorf("Fold(%v, %d, %d): %v, %d, %v, want %v, %d", tests, column, how, got, count, err, want, rows)
	}
}

func foldFails(t *testing.T, table *seam.Table, tests []api.Test, column, how, kind, at int) {
	t.Helper()
	got, count, err := table.Fold(tests, column, how)
	isFault(t, "Fold", err, kind, at)
	if got != (api.Value{}) || count != 0 {
		t.Errorf("Fold(%v, %d, %d): %v, %d beside an error", tests, column, how, got, count)
	}
}

func number(n int64) api.Value { return api.Value{N: n} }

func text(s string) api.Value { return api.Value{S: s} }

func ofFloat(f float64) api.Value { return api.Value{N: int64(math.Float64bits(f))} }

func row(values ...api.Value) []api.Value { return values }

func ask(do, column int, v api.Value) api.Test { return api.Test{Do: do, Column: column, V: v} }

func list(tests ...api.Test) []api.Test { return tests }

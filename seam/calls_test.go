package seam_test

import (
	"math"
	"runtime"
	"slices"
	"strings"
	"testing"
	"time"

	"seam/api"
	"seam/seam"
)

// wild: numbers at which a careless index, sum or table would break.
func wild() []int {
	return []int{math.MinInt, math.MinInt + 1, -1 << 32, -1, 0, 1, 2, 3, 4, 5, 6, 7, 8, 9, 10, 40, 41, 127, 128, 1000, 1 << 32, math.MaxInt - 1, math.MaxInt}
}

func wildTexts() []string {
	return []string{"", "\x00", "a", "\xff\xfe", strings.Repeat("x", 40), strings.Repeat("x", 41), strings.Repeat("\x00", 1<<16)}
}

// P1: no call panics, whatever it is given.
func TestNoCallPanics(t *testing.T) {
	for _, n := range wild() {
		seam.New([]int{n})
		seam.New([]int{api.Int, n})
		seam.New(slices.Repeat([]int{n}, 300))
	}
	for _, s := range wildTexts() {
		seam.Load(s)
	}
	table := smallTable(t)
	for _, n := range wild() {
		for _, s := range wildTexts() {
			v := api.Value{N: int64(n), S: s}
			table.Append(slices.Repeat(row(v), 4))
			table.Append(row(v))
			for _, do := range wild() {
				askEverything(t, list(ask(do, n, v)), n)
				askEverything(t, list(ask(api.Same, 0, number(1)), ask(do, n, v)), do)
				askEverything(t, slices.Repeat(list(ask(do, n, v)), 40), n)
			}
		}
	}
	for _, turn := range turns(t) {
		table = turn(table)
	}
}

// smallTable has a row in a segment, and a fresh one.
func smallTable(t *testing.T) *seam.Table {
	table := newTable(t, api.Int, api.Real, api.Text, api.Flag)
	appendAll(t, table, row(number(1), number(2), text("3"), number(1)))
	table.Flush()
	appendAll(t, table, row(number(0), number(0), text(""), number(0)))
	return table
}

func askEverything(t *testing.T, tests []api.Test, n int) {
	table := smallTable(t)
	table.Scan(tests)
	for how := range 5 {
		table.Fold(tests, n, how)
		table.Fold(nil, how, n)
	}
	table.Delete(tests)
	table.Fold(tests, n, n)
}

// P1: long lists end with a fault, not with a crash.
func TestLongLists(t *testing.T) {
	_, err := seam.New(slices.Repeat([]int{api.Int}, 1<<16))
	isFault(t, "New", err, api.BadSchema, -1)
	table := newTable(t, api.Int)
	isFault(t, "Append", table.Append(make([]api.Value, 1<<16)), api.BadRow, -1)
	scanFails(t, table, make([]api.Test, 1<<16), -1)
	deleteFails(t, table, make([]api.Test, 1<<16), -1)
	foldFails(t, table, make([]api.Test, 1<<16), 9, 9, api.BadTest, -1)
}

// P1: with an error nothing is changed.
func TestFaultsChangeNothing(t *testing.T) {
	table := newTable(t, api.Int, api.Text)
	appendAll(t, table, row(number(5), text("a")))
	isFault(t, "Append", table.Append(row(number(6))), api.BadRow, -1)
	isFault(t, "Append", table.Append(row(number(6), number(6))), api.BadRow, 1)
	tests := list(ask(api.Same, 0, number(5)), ask(api.Same, 9, number(5)))
	scanFails(t, table, tests, 1)
	deleteFails(t, table, tests, 1)
	foldFails(t, table, tests, 0, api.Sum, api.BadTest, 1)
	foldFails(t, table, nil, 1, api.Sum, api.BadColumn, 1)
	scanIs(t, table, nil, row(number(5), text("a")))
}

// P2: the table keeps none of the lists handed in.
func TestListsHandedInAreNotKept(t *testing.T) {
	schema := []int{api.Int, api.Text}
	table, err := seam.New(schema)
	if err != nil {
		t.Fatal(err)
	}
	schema[0], schema[1] = api.Text, api.Int
	values := row(number(5), text("a"))
	appendAll(t, table, values)
	values[0], values[1] = number(6), text("b")
	appendAll(t, table, values)
	clear(values)
	scanIs(t, table, nil, row(number(5), text("a")), row(number(6), text("b")))
	isFault(t, "Append", table.Append(row(text("a"), number(5))), api.BadRow, 0)
	tests := list(ask(api.Same, 0, number(5)))
	scanIs(t, table, tests, row(number(5), text("a")))
	foldIs(t, table, tests, 1, api.Least, text("a"), 1)
	tests[0].V = number(6)
	scanIs(t, table, tests, row(number(6), text("b")))
	foldIs(t, table, tests, 1, api.Least, text("b"), 1)
	deleteIs(t, table, tests, 1)
	tests[0].V = number(5)
	scanIs(t, table, nil, row(number(5), text("a")))
	deleteIs(t, table, tests, 1)
}

// P2: what is handed in is not written into, nor is its spare room.
func TestListsHandedInAreNotChanged(t *testing.T) {
	schema := []int{api.Int, api.Int, 77, 77, 77}
	table, err := seam.New(schema[:2])
	if err != nil {
		t.Fatal(err)
	}
	values := row(number(5), number(6), text("spare"), text("spare"))
	appendAll(t, table, values[:2])
	yes, spare := ask(api.Same, 0, number(5)), ask(77, 77, text("spare"))
	tests := list(yes, yes, api.Test{Do: api.And}, api.Test{Do: api.Not}, api.Test{Do: api.Not}, spare, spare)
	scanIs(t, table, tests[:5], row(number(5), number(6)))
	foldIs(t, table, tests[:5], 1, api.Most, number(6), 1)
	deleteIs(t, table, tests[:5], 1)
	if !slices.Equal(schema, []int{api.Int, api.Int, 77, 77, 77}) {
		t.Errorf("New wrote into the schema: %v", schema)
	}
	if !slices.Equal(values, row(number(5), number(6), text("spare"), text("spare"))) {
		t.Errorf("Append wrote into the row: %v", values)
	}
	if !slices.Equal(tests, list(yes, yes, api.Test{Do: api.And}, api.Test{Do: api.Not}, api.Test{Do: api.Not}, spare, spare)) {
		t.Errorf("a call wrote into the tests: %v", tests)
	}
}

// fillSpare writes into all of a row's memory, its spare room too.
func fillSpare(values []api.Value) {
	values = values[:cap(values)]
	for i := range values {
		values[i] = api.Value{N: 77, S: "written"}
	}
}

// P2: lists that come out are the caller's alone.
func TestListsThatComeOutAreNew(t *testing.T) {
	table := newTable(t, api.Int, api.Text, api.Flag)
	a, b, c := row(number(5), text("a"), number(0)), row(number(6), text("b"), number(1)), row(number(7), text("c"), number(0))
	appendAll(t, table, a, b, c)
	kept, err := table.Scan(nil)
	if err != nil || len(kept) != 3 {
		t.Fatalf("Scan: %v, %v", kept, err)
	}
	for i := range 3 {
		out, err := table.Scan(nil)
		if err != nil || len(out) != 3 {
			t.Fatalf("Scan: %v, %v", out, err)
		}
		others := slices.Concat(out[:i], out[i+1:])
		want := slices.Delete([][]api.Value{a, b, c}, i, i+1)
		fillSpare(out[i])
		if !slices.EqualFunc(others, want, slices.Equal) {
			t.Errorf("writing into row %d changed the others: %v", i, others)
		}
		clear(out[:cap(out)])
	}
	deleteIs(t, table, list(ask(api.Same, 0, number(6))), 1)
	if !slices.EqualFunc(kept, [][]api.Value{a, b, c}, slices.Equal) {
		t.Errorf("later calls, or writing into their answers, changed an earlier one: %v", kept)
	}
	scanIs(t, table, nil, a, c)
}

// P2: faults too are not shared: what a caller writes into one is not in the next one.
func TestFaultsAreNew(t *testing.T) {
	table := newTable(t, api.Int)
	err := table.Append(nil)
	isFault(t, "Append", err, api.BadRow, -1)
	err.(*api.Fault).At = 99
	isFault(t, "Append", table.Append(nil), api.BadRow, -1)
	_, _, err = table.Fold(nil, 1, api.Sum)
	isFault(t, "Fold", err, api.BadColumn, 1)
	err.(*api.Fault).At = 99
	foldFails(t, table, nil, 1, api.Sum, api.BadColumn, 1)
}

// P2: tables do not disturb one another, and the same calls answer the same.
func TestTablesAreApart(t *testing.T) {
	one, other := newTable(t, api.Int), newTable(t, api.Int)
	appendAll(t, one, row(number(1)), row(number(2)))
	scanIs(t, other, nil)
	appendAll(t, other, row(number(3)))
	for range 3 {
		scanIs(t, one, nil, row(number(1)), row(number(2)))
		scanIs(t, other, nil, row(number(3)))
		foldIs(t, one, nil, 0, api.Sum, number(3), 2)
		foldIs(t, other, nil, 0, api.Most, number(3), 1)
	}
	one.Flush()
	read := load(t, one.Dump())
	deleteIs(t, one, nil, 2)
	one.Merge()
	scanIs(t, other, nil, row(number(3)))
	scanIs(t, read, nil, row(number(1)), row(number(2)))
}

// P2: no goroutine runs any more when a call has answered.
func TestNoGoroutineIsLeft(t *testing.T) {
	before := runtime.NumGoroutine()
	table := newTable(t, api.Int)
	for i := range int64(300) {
		appendAll(t, table, row(number(i)))
		table.Scan(nil)
		table.Scan(list(api.Test{}))
		table.Fold(nil, 0, api.Sum)
		table.Fold(nil, 1, api.Sum)
		table.Delete(list(ask(api.Same, 0, number(i-7))))
		table.Delete(list(api.Test{}))
		if i%10 == 9 {
			table.Flush()
		}
		if i%70 == 69 {
			table.Merge()
			seam.Load(table.Dump())
			seam.Load(table.Dump()[1:])
		}
	}
	for range 1000 {
		if runtime.NumGoroutine() <= before {
			return
		}
		time.Sleep(time.Millisecond)
	}
	t.Errorf("%d goroutines, %d ahead of the calls", runtime.NumGoroutine(), before)
}

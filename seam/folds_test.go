package seam_test

import (
	"math"
	"slices"
	"strings"
	"testing"

	"seam/api"
)

// P6, P7, example 4.
func TestFoldAndDeleteExample(t *testing.T) {
	table := newTable(t, api.Int, api.Text)
	appendAll(t, table, row(number(5), text("a")), row(number(7), text("b")), row(number(5), text("c")))
	foldIs(t, table, nil, 0, api.Sum, number(17), 3)
	foldIs(t, table, nil, 0, api.Least, number(5), 3)
	foldIs(t, table, nil, 1, api.Most, text("c"), 3)
	foldFails(t, table, nil, 1, api.Sum, api.BadColumn, 1)
	deleteIs(t, table, list(ask(api.Below, 0, number(6))), 2)
	scanIs(t, table, nil, row(number(7), text("b")))
	foldIs(t, table, nil, 0, api.Sum, number(7), 1)
}

// refusedTests: tests that may not be, on columns Int and Text, and the At of their fault.
func refusedTests() map[int][]api.Test {
	yes := ask(api.AtLeast, 0, number(0))
	return map[int][]api.Test{
		-1: slices.Repeat(list(yes), 41),
		0:  list(ask(api.Below, 0, text("x")), api.Test{}),
		1:  list(yes, api.Test{Do: api.And}),
		2:  list(yes, api.Test{Do: api.Not}, ask(api.Same, 2, number(0))),
		3:  list(yes, yes, api.Test{Do: api.Not}),
		4:  list(yes, yes, yes, api.Test{Do: api.Or}),
		5:  list(yes, yes, api.Test{Do: api.Or}, api.Test{Do: api.Not}, api.Test{Do: api.Not}, api.Test{Do: 10}),
		40: slices.Repeat(list(yes), 40),
	}
}

// P6: what Scan refuses, and nothing is gone then.
func TestDeleteRefuses(t *testing.T) {
	table := newTable(t, api.Int, api.Text)
	appendAll(t, table, row(number(5), text("a")), row(number(7), text("b")))
	for at, tests := range refusedTests() {
		scanFails(t, table, tests, at)
		deleteFails(t, table, tests, at)
		scanIs(t, table, nil, row(number(5), text("a")), row(number(7), text("b")))
	}
}

// P6: those that stay keep their order and values, wherever the others stood.
func TestDeleteKeepsTheOthers(t *testing.T) {
	a, b, c, d := row(number(1), text("a")), row(number(2), text("b")), row(number(3), text("c")), row(number(4), text("d"))
	all := [][]api.Value{a, b, c, d}
	for mask := range 16 {
		table := newTable(t, api.Int, api.Text)
		appendAll(t, table, all...)
		tests := list(ask(api.Same, 0, number(0)))
		var stay [][]api.Value
		for i, values := range all {
			if mask>>i&1 == 0 {
				stay = append(stay, values)
				continue
			}
			tests = append(tests, ask(api.Same, 0, values[0]), api.Test{Do: api.Or})
		}
		deleteIs(t, table, tests, 4-len(stay))
		scanIs(t, table, nil, stay...)
		deleteIs(t, table, tests, 0)
		scanIs(t, table, nil, stay...)
		appendAll(t, table, a, d)
		scanIs(t, table, nil, append(stay, a, d)...)
	}
}

// P6: no tests say yes to each row; of no rows none is deleted.
func TestDeleteAll(t *testing.T) {
	table := newTable(t, api.Int)
	deleteIs(t, table, nil, 0)
	for i := range int64(300) {
		appendAll(t, table, row(number(i)))
	}
	deleteIs(t, table, list(), 300)
	scanIs(t, table, nil)
	foldIs(t, table, nil, 0, api.Sum, number(0), 0)
	deleteIs(t, table, nil, 0)
	appendAll(t, table, row(number(9)))
	scanIs(t, table, nil, row(number(9)))
}

// P6: equal rows are each counted, and tests on a Real's values hold as in Scan.
func TestDeleteCounts(t *testing.T) {
	table := newTable(t, api.Real, api.Flag)
	minus, none := ofFloat(math.Copysign(0, -1)), number(0x7ff8000000000123)
	for _, v := range row(ofFloat(0), minus, none, ofFloat(1), ofFloat(1)) {
		appendAll(t, table, row(v, number(1)))
	}
	deleteIs(t, table, list(ask(api.Same, 0, none)), 0)
	deleteIs(t, table, list(ask(api.Same, 0, minus)), 2)
	deleteIs(t, table, list(ask(api.AtLeast, 0, ofFloat(1))), 2)
	scanIs(t, table, nil, row(none, number(1)))
	deleteIs(t, table, list(ask(api.Other, 0, none)), 1)
}

// P4: rows that were deleted are not counted.
func TestDeleteMakesRoom(t *testing.T) {
	table := newTable(t, api.Int)
	for i := range int64(1000) {
		appendAll(t, table, row(number(i)))
	}
	for round := range int64(3) {
		isFault(t, "Append", table.Append(row(number(-1))), api.BadMany, 0)
		deleteIs(t, table, list(ask(api.Same, 0, number(500+round))), 1)
		appendAll(t, table, row(number(2000+round)))
	}
	isFault(t, "Append", table.Append(row(number(-1))), api.BadMany, 0)
	scanIs(t, table, list(ask(api.AtLeast, 0, number(999))), row(number(999)), row(number(2000)), row(number(2001)), row(number(2002)))
	deleteIs(t, table, nil, 1000)
	for i := range int64(1000) {
		appendAll(t, table, row(number(i)))
	}
	isFault(t, "Append", table.Append(row(number(-1))), api.BadMany, 0)
}

// P7: the fault of Scan comes ahead of the column's.
func TestFoldRefusesTests(t *testing.T) {
	table := newTable(t, api.Int, api.Text)
	appendAll(t, table, row(number(5), text("a")))
	for at, tests := range refusedTests() {
		foldFails(t, table, tests, 0, api.Sum, api.BadTest, at)
		foldFails(t, table, tests, 1, api.Sum, api.BadTest, at)
		foldFails(t, table, tests, 9, 9, api.BadTest, at)
	}
}

// P7: there is no such column, no such way, or no sum of such values; of no rows too.
func TestFoldRefusesColumns(t *testing.T) {
	table := newTable(t, api.Int, api.Real, api.Text, api.Flag)
	for range 2 {
		for _, column := range []int{math.MinInt, -1, 4, 5, 6, 1 << 32, math.MaxInt} {
			for _, how := range []int{0, api.Sum, api.Least, api.Most, 4} {
				foldFails(t, table, nil, column, how, api.BadColumn, column)
			}
		}
		for column := range 4 {
			for _, how := range []int{math.MinInt, -1, 0, 4, 1<<32 + 1, math.MaxInt} {
				foldFails(t, table, nil, column, how, api.BadColumn, column)
			}
		}
		for column := 1; column < 4; column++ {
			foldFails(t, table, nil, column, api.Sum, api.BadColumn, column)
		}
		appendAll(t, table, row(number(1), ofFloat(1), text("a"), number(1)))
	}
}

// P7: of no rows, whether there are none or the tests say no to all of them.
func TestFoldOfNoRows(t *testing.T) {
	table := newTable(t, api.Int, api.Real, api.Text, api.Flag)
	var tests []api.Test
	for range 2 {
		foldIs(t, table, tests, 0, api.Sum, api.Value{}, 0)
		for column := range 4 {
			foldIs(t, table, tests, column, api.Least, api.Value{}, 0)
			foldIs(t, table, tests, column, api.Most, api.Value{}, 0)
		}
		appendAll(t, table, row(number(9), ofFloat(-9), text("z"), number(1)))
		tests = list(ask(api.Below, 0, number(9)))
	}
}

// P7: sums are cut to 64 bits.
func TestFoldSums(t *testing.T) {
	table := newTable(t, api.Int)
	most, least := int64(math.MaxInt64), int64(math.MinInt64)
	appendAll(t, table, row(number(most)))
	foldIs(t, table, nil, 0, api.Sum, number(most), 1)
	appendAll(t, table, row(number(most)))
	foldIs(t, table, nil, 0, api.Sum, number(-2), 2)
	appendAll(t, table, row(number(3)), row(number(least)), row(number(-5)))
	foldIs(t, table, nil, 0, api.Sum, number(least-4), 5)
	foldIs(t, table, list(ask(api.Below, 0, number(4))), 0, api.Sum, number(most-1), 3)
	foldIs(t, table, list(ask(api.Same, 0, number(-5))), 0, api.Sum, number(-5), 1)
}

// P7: the least and the most, of those rows alone to which the tests say yes.
func TestFoldLeastAndMost(t *testing.T) {
	table := newTable(t, api.Int, api.Text, api.Flag)
	long := strings.Repeat("\xff", 40)
	appendAll(t, table,
		row(number(3), text("b"), number(1)), row(number(-9), text("B"), number(1)), row(number(math.MaxInt64), text("a\x00"), number(0)),
		row(number(math.MinInt64), text("a"), number(1)), row(number(20), text(long), number(1)))
	foldIs(t, table, nil, 0, api.Least, number(math.MinInt64), 5)
	foldIs(t, table, nil, 0, api.Most, number(math.MaxInt64), 5)
	foldIs(t, table, nil, 1, api.Least, text("B"), 5)
	foldIs(t, table, nil, 1, api.Most, text(long), 5)
	foldIs(t, table, nil, 2, api.Least, number(0), 5)
	foldIs(t, table, nil, 2, api.Most, number(1), 5)
	small := list(ask(api.AtLeast, 0, number(-9)), ask(api.Below, 0, number(20)), api.Test{Do: api.And})
	foldIs(t, table, small, 0, api.Least, number(-9), 2)
	foldIs(t, table, small, 0, api.Most, number(3), 2)
	foldIs(t, table, small, 1, api.Most, text("b"), 2)
	foldIs(t, table, small, 2, api.Least, number(1), 2)
	foldIs(t, table, list(ask(api.Below, 1, text("b")), ask(api.Above, 1, text("B")), api.Test{Do: api.And}), 1, api.Least, text("a"), 2)
	deleteIs(t, table, list(ask(api.Same, 1, text("B")), ask(api.Same, 1, text(long)), api.Test{Do: api.Or}), 2)
	foldIs(t, table, nil, 1, api.Least, text("a"), 3)
	foldIs(t, table, nil, 1, api.Most, text("b"), 3)
}

// P7, example 5: of a Real's values those that are no numbers are ahead of all, and where none is ahead the first one is told, bit for bit.
func TestFoldReals(t *testing.T) {
	table := newTable(t, api.Real, api.Int)
	minus, quiet, loud := ofFloat(math.Copysign(0, -1)), number(0x7ff8000000000123), number(-1)
	for i, v := range row(ofFloat(1), minus, quiet, ofFloat(0), loud, ofFloat(math.Inf(-1)), ofFloat(math.Inf(1))) {
		appendAll(t, table, row(v, number(int64(i))))
	}
	first := func(n int64) []api.Test { return list(ask(api.Below, 1, number(n))) }
	behind := func(n int64) []api.Test { return list(ask(api.AtLeast, 1, number(n))) }
	foldIs(t, table, first(4), 0, api.Least, quiet, 4)
	foldIs(t, table, first(4), 0, api.Most, ofFloat(1), 4)
	foldIs(t, table, nil, 0, api.Least, quiet, 7)
	foldIs(t, table, nil, 0, api.Most, ofFloat(math.Inf(1)), 7)
	foldIs(t, table, behind(3), 0, api.Least, loud, 4)
	foldIs(t, table, behind(2), 0, api.Most, ofFloat(math.Inf(1)), 5)
	deleteIs(t, table, list(ask(api.Same, 1, number(2))), 1)
	foldIs(t, table, first(4), 0, api.Least, minus, 3)
	foldIs(t, table, list(ask(api.Same, 0, ofFloat(0))), 0, api.Most, minus, 2)
	deleteIs(t, table, list(ask(api.Same, 1, number(0)), ask(api.AtLeast, 1, number(4)), api.Test{Do: api.Or}), 4)
	appendAll(t, table, row(minus, number(9)))
	foldIs(t, table, behind(3), 0, api.Least, ofFloat(0), 2)
	foldIs(t, table, behind(3), 0, api.Most, ofFloat(0), 2)
	deleteIs(t, table, nil, 3)
	appendAll(t, table, row(loud, number(0)), row(quiet, number(1)))
	foldIs(t, table, nil, 0, api.Least, loud, 2)
	foldIs(t, table, nil, 0, api.Most, loud, 2)
}

// P7: Fold changes nothing.
func TestFoldChangesNothing(t *testing.T) {
	table := newTable(t, api.Int)
	appendAll(t, table, row(number(4)), row(number(-4)), row(number(6)))
	for range 3 {
		foldIs(t, table, nil, 0, api.Sum, number(6), 3)
		foldIs(t, table, nil, 0, api.Least, number(-4), 3)
		foldIs(t, table, nil, 0, api.Most, number(6), 3)
	}
	scanIs(t, table, nil, row(number(4)), row(number(-4)), row(number(6)))
}

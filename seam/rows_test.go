package seam_test

import (
	"math"
	"slices"
	"strings"
	"testing"

	"seam/api"
	"seam/seam"
)

// P3, example 1.
func TestNewRefuses(t *testing.T) {
	for _, c := range []struct {
		schema []int
		at     int
	}{
		{nil, -1},
		{[]int{}, -1},
		{[]int{1, 1, 1, 1, 1, 1, 1}, -1},
		{[]int{1, 5}, 1},
		{[]int{0}, 0},
		{[]int{-1, 7}, 0},
		{[]int{4, 3, 2, 1, math.MaxInt}, 4},
		{[]int{1, 1, 1, 1, 1, 1, 0}, 6},
		{[]int{1, 1, 1, 1, 1, 1, 1, 1, 9, 8}, 8},
	} {
		table, err := seam.New(c.schema)
		isFault(t, "New", err, api.BadSchema, c.at)
		if table != nil {
			t.Errorf("New(%v): a table beside an error", c.schema)
		}
	}
}

// P3.
func TestNewHasNoRows(t *testing.T) {
	for _, schema := range [][]int{{1}, {2}, {3}, {4}, {1, 2, 3, 4, 1, 2}, {3, 3, 3, 3, 3, 3}} {
		scanIs(t, newTable(t, schema...), nil)
	}
}

// P4, example 3.
func TestAppendRefuses(t *testing.T) {
	long := text(strings.Repeat("x", 41))
	zero, x := number(0), text("x")
	table := newTable(t, api.Int, api.Text, api.Flag, api.Real)
	for _, c := range []struct {
		row []api.Value
		at  int
	}{
		{nil, -1},
		{row(number(5)), -1},
		{row(x, x, x), -1},
		{row(zero, zero, zero, zero, zero), -1},
		{row(api.Value{N: 5, S: "x"}, text("a"), zero, zero), 0},
		{row(x, number(1), number(2), x), 0},
		{row(zero, number(1), number(2), x), 1},
		{row(zero, api.Value{N: 1, S: "a"}, zero, zero), 1},
		{row(zero, long, zero, zero), 1},
		{row(zero, zero, number(2), x), 2},
		{row(zero, zero, number(-1), zero), 2},
		{row(zero, zero, x, zero), 2},
		{row(zero, zero, zero, x), 3},
	} {
		isFault(t, "Append", table.Append(c.row), api.BadRow, c.at)
	}
	scanIs(t, table, nil)
}

// P4, P5: values at the edges of what fits come out as they went in.
func TestAppendTakesEdges(t *testing.T) {
	rows := [][]api.Value{
		row(number(math.MinInt64), text(""), number(0), number(math.MinInt64)),
		row(number(math.MaxInt64), text(strings.Repeat("\xff", 40)), number(1), number(-1)),
		row(number(0), text("\x00"), number(1), number(0x7ff0000000000001)),
		row(number(-1), text("é\n\xc3"), number(0), ofFloat(math.Inf(-1))),
		row(number(0), text("\x00"), number(1), number(0x7ff8000000000123)),
	}
	table := newTable(t, api.Int, api.Text, api.Flag, api.Real)
	appendAll(t, table, rows...)
	scanIs(t, table, nil, rows...)
}

// P4: the thousandth row is the last one; a row that may not be is told ahead of that.
func TestAppendUpToMaxRows(t *testing.T) {
	table := newTable(t, api.Int, api.Text)
	var all [][]api.Value
	for i := range int64(1000) {
		all = append(all, row(number(-i), text("")))
	}
	appendAll(t, table, all...)
	for range 2 {
		isFault(t, "Append", table.Append(row(number(1), text(""))), api.BadMany, 0)
		isFault(t, "Append", table.Append(row(number(1))), api.BadRow, -1)
		isFault(t, "Append", table.Append(row(number(1), number(1))), api.BadRow, 1)
	}
	scanIs(t, table, nil, all...)
}

// P5, example 2.
func TestScanExample(t *testing.T) {
	table := newTable(t, api.Int, api.Text)
	a, b, c := row(number(5), text("a")), row(number(7), text("b")), row(number(5), text("c"))
	appendAll(t, table, a, b, c)
	same, above := ask(api.Same, 0, number(5)), ask(api.Above, 0, number(5))
	scanIs(t, table, list(same), a, c)
	scanIs(t, table, list(above, ask(api.Same, 1, text("c")), api.Test{Do: api.Or}), b, c)
	scanIs(t, table, list(), a, b, c)
	scanFails(t, table, list(api.Test{Do: api.Not}), 0)
	scanFails(t, table, list(same, same), 2)
	scanFails(t, table, list(ask(api.Same, 2, number(0))), 0)
}

// P5: each deed, on each type that has an order of its own kind.
func TestScanDeeds(t *testing.T) {
	table := newTable(t, api.Int, api.Text, api.Flag)
	low, middle, high := row(number(-9), text("B"), number(0)), row(number(3), text("a"), number(0)), row(number(20), text("a\x00"), number(1))
	appendAll(t, table, high, low, middle)
	for column := range 2 {
		v := middle[column]
		scanIs(t, table, list(ask(api.Same, column, v)), middle)
		scanIs(t, table, list(ask(api.Other, column, v)), high, low)
		scanIs(t, table, list(ask(api.Below, column, v)), low)
		scanIs(t, table, list(ask(api.AtMost, column, v)), low, middle)
		scanIs(t, table, list(ask(api.Above, column, v)), high)
		scanIs(t, table, list(ask(api.AtLeast, column, v)), high, middle)
	}
	scanIs(t, table, list(ask(api.Same, 2, number(1))), high)
	scanIs(t, table, list(ask(api.Other, 2, number(1))), low, middle)
	scanIs(t, table, list(ask(api.Below, 2, number(1))), low, middle)
	scanIs(t, table, list(ask(api.AtMost, 2, number(0))), low, middle)
	scanIs(t, table, list(ask(api.Above, 2, number(0))), high)
	scanIs(t, table, list(ask(api.AtLeast, 2, number(0))), high, low, middle)
}

// P5: answers are taken from behind, and the order of tests counts.
func TestScanCombines(t *testing.T) {
	table := newTable(t, api.Int)
	for i := range int64(8) {
		appendAll(t, table, row(number(i)))
	}
	is := func(n int64) api.Test { return ask(api.Same, 0, number(n)) }
	below := func(n int64) api.Test { return ask(api.Below, 0, number(n)) }
	and, or, not := api.Test{Do: api.And}, api.Test{Do: api.Or}, api.Test{Do: api.Not}
	scanIs(t, table, list(is(6), is(7), below(7), and, or), row(number(6)))
	scanIs(t, table, list(is(6), is(7), or, below(7), and), row(number(6)))
	scanIs(t, table, list(is(6), is(2), below(3), and, or), row(number(2)), row(number(6)))
	scanIs(t, table, list(is(6), is(2), or, below(3), and), row(number(2)))
	scanIs(t, table, list(below(6), below(2), not, and), row(number(2)), row(number(3)), row(number(4)), row(number(5)))
	scanIs(t, table, list(below(6), not, below(2), or), row(number(0)), row(number(1)), row(number(6)), row(number(7)))
	scanIs(t, table, append(list(below(1)), slices.Repeat(list(not), 38)...), row(number(0)))
	scanIs(t, table, append(list(ask(api.AtLeast, 0, number(1))), slices.Repeat(list(not), 39)...), row(number(0)))
}

// P5: what is refused, the first of it, and what comes ahead of what.
func TestScanRefuses(t *testing.T) {
	table := newTable(t, api.Int, api.Text, api.Flag, api.Real)
	yes, not := ask(api.Same, 0, number(1)), api.Test{Do: api.Not}
	for _, c := range []struct {
		tests []api.Test
		at    int
	}{
		{slices.Repeat(list(yes), 41), -1},
		{slices.Repeat(list(api.Test{}), 41), -1},
		{list(api.Test{}), 0},
		{list(yes, api.Test{Do: 10}), 1},
		{list(yes, api.Test{Do: math.MinInt}, not), 1},
		{list(yes, not, ask(api.Below, 4, number(0))), 2},
		{list(ask(api.Below, -1, number(0))), 0},
		{list(ask(api.Below, 0, text("x"))), 0},
		{list(ask(api.Below, 1, number(1))), 0},
		{list(ask(api.Below, 1, text(strings.Repeat("x", 41)))), 0},
		{list(ask(api.Below, 2, number(2))), 0},
		{list(ask(api.Below, 3, text("x"))), 0},
		{list(not, api.Test{}), 0},
		{list(yes, api.Test{Do: api.And}), 1},
		{list(yes, yes, api.Test{Do: api.Or}, api.Test{Do: api.Or}), 3},
		{list(yes, yes, not), 3},
		{slices.Repeat(list(yes), 40), 40},
	} {
		scanFails(t, table, c.tests, c.at)
	}
}

// P5: And, Or and Not ask of no column, so theirs and their V are not looked at.
func TestScanOverlooksUnusedFields(t *testing.T) {
	table := newTable(t, api.Int)
	appendAll(t, table, row(number(1)), row(number(2)))
	odd := func(do int) api.Test { return api.Test{Do: do, Column: -5, V: api.Value{N: 9, S: "odd"}} }
	is := ask(api.Same, 0, number(1))
	scanIs(t, table, list(is, odd(api.Not)), row(number(2)))
	scanIs(t, table, list(is, is, odd(api.And)), row(number(1)))
	scanIs(t, table, list(is, is, odd(api.Or)), row(number(1)))
}

// P5, example 5: Real values are compared as float64, and kept bit for bit.
func TestScanReals(t *testing.T) {
	table := newTable(t, api.Real)
	one, minus, none, zero := row(ofFloat(1)), row(ofFloat(math.Copysign(0, -1))), row(number(0x7ff8000000000123)), row(ofFloat(0))
	appendAll(t, table, one, minus, none, zero)
	atMost := ask(api.AtMost, 0, ofFloat(5))
	scanIs(t, table, list(ask(api.Same, 0, ofFloat(0))), minus, zero)
	scanIs(t, table, list(ask(api.Same, 0, minus[0])), minus, zero)
	scanIs(t, table, list(ask(api.Other, 0, ofFloat(1))), minus, none, zero)
	scanIs(t, table, list(atMost), one, minus, zero)
	scanIs(t, table, list(atMost, api.Test{Do: api.Not}), none)
	scanIs(t, table, list(ask(api.Other, 0, none[0])), one, minus, none, zero)
	for _, do := range []int{api.Same, api.Below, api.AtMost, api.Above, api.AtLeast} {
		scanIs(t, table, list(ask(do, 0, none[0])))
	}
	scanIs(t, table, list(ask(api.Below, 0, ofFloat(-1))))
	scanIs(t, table, list(ask(api.Above, 0, ofFloat(-1))), one, minus, zero)
}

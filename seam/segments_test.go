package seam_test

import (
	"math"
	"math/rand"
	"slices"
	"strconv"
	"strings"
	"testing"

	"seam/api"
	"seam/seam"
)

func load(t *testing.T, bytes string) *seam.Table {
	t.Helper()
	table, err := seam.Load(bytes)
	if err != nil || table == nil {
		t.Fatalf("Load: %v, %v", table, err)
	}
	return table
}

func loadFails(t *testing.T, what, bytes string) {
	t.Helper()
	table, err := seam.Load(bytes)
	isFault(t, "Load of "+what, err, api.BadBytes, 0)
	if table != nil {
		t.Errorf("Load of %s: a table beside an error", what)
	}
}

// turns: what may be done to a table between any two calls, without any answer but Dump's being another one.
func turns(t *testing.T) map[string]func(*seam.Table) *seam.Table {
	return map[string]func(*seam.Table) *seam.Table{
		"nothing": func(table *seam.Table) *seam.Table { return table },
		"flush":   func(table *seam.Table) *seam.Table { table.Flush(); return table },
		"merge":   func(table *seam.Table) *seam.Table { table.Merge(); return table },
		"both":    func(table *seam.Table) *seam.Table { table.Flush(); table.Merge(); return table },
		"dump":    func(table *seam.Table) *seam.Table { table.Dump(); return table },
		"load":    func(table *seam.Table) *seam.Table { return load(t, table.Dump()) },
		"all": func(table *seam.Table) *seam.Table {
			table.Flush()
			table.Merge()
			table = load(t, load(t, table.Dump()).Dump())
			table.Merge()
			table.Flush()
			return table
		},
	}
}

// mixed: a row of an Int, a Real, a Text and a Flag column.
func mixed(i int64) []api.Value {
	return row(number(i*i*i), ofFloat(-float64(i)/3), text(strconv.FormatInt(i%7, 3)), number(i/5%2))
}

func mixedRows(first, end int64) [][]api.Value {
	var rows [][]api.Value
	for i := first; i < end; i++ {
		rows = append(rows, mixed(i))
	}
	return rows
}

func mixedTable(t *testing.T) *seam.Table {
	return newTable(t, api.Int, api.Real, api.Text, api.Flag)
}

// P8, P9: the examples 2 and 4, with rows in segments.
func TestExamplesInSegments(t *testing.T) {
	a, b, c := row(number(5), text("a")), row(number(7), text("b")), row(number(5), text("c"))
	for _, turn := range turns(t) {
		table := turn(newTable(t, api.Int, api.Text))
		for _, values := range [][]api.Value{a, b, c} {
			appendAll(t, table, values)
			table = turn(table)
		}
		scanIs(t, table, list(ask(api.Same, 0, number(5))), a, c)
		scanIs(t, table, list(ask(api.Above, 0, number(5)), ask(api.Same, 1, text("c")), api.Test{Do: api.Or}), b, c)
		scanFails(t, table, list(api.Test{Do: api.Not}), 0)
		isFault(t, "Append", table.Append(row(api.Value{N: 5, S: "x"}, text("a"))), api.BadRow, 0)
		foldIs(t, table, nil, 0, api.Sum, number(17), 3)
		foldIs(t, table, nil, 0, api.Least, number(5), 3)
		foldIs(t, table, nil, 1, api.Most, text("c"), 3)
		foldFails(t, table, nil, 1, api.Sum, api.BadColumn, 1)
		deleteIs(t, table, list(ask(api.Below, 0, number(6))), 2)
		table = turn(table)
		scanIs(t, table, nil, b)
		foldIs(t, table, nil, 0, api.Sum, number(7), 1)
	}
}

// P8, P9, example 5: Real values in segments, bit for bit.
func TestRealsInSegments(t *testing.T) {
	one, minus, none, zero := row(ofFloat(1)), row(ofFloat(math.Copysign(0, -1))), row(number(0x7ff8000000000123)), row(ofFloat(0))
	for _, turn := range turns(t) {
		table := newTable(t, api.Real)
		appendAll(t, table, one, minus, none, zero)
		table = turn(table)
		scanIs(t, table, list(ask(api.Same, 0, ofFloat(0))), minus, zero)
		scanIs(t, table, list(ask(api.Other, 0, ofFloat(1))), minus, none, zero)
		scanIs(t, table, list(ask(api.AtMost, 0, ofFloat(5)), api.Test{Do: api.Not}), none)
		foldIs(t, table, nil, 0, api.Least, none[0], 4)
		foldIs(t, table, nil, 0, api.Most, one[0], 4)
		deleteIs(t, table, list(ask(api.AtMost, 0, none[0]), ask(api.Other, 0, none[0]), api.Test{Do: api.And}), 0)
		deleteIs(t, table, list(ask(api.AtMost, 0, ofFloat(5)), api.Test{Do: api.Not}), 1)
		table = turn(table)
		foldIs(t, table, nil, 0, api.Least, minus[0], 3)
		scanIs(t, table, nil, one, minus, zero)
	}
}

// P8: around a segment's bound, and behind a second Flush.
func TestSegmentBounds(t *testing.T) {
	for _, n := range []int64{0, 1, 2, 63, 64, 65, 127, 128, 129, 255, 256, 257, 384, 499} {
		for name, turn := range turns(t) {
			table := mixedTable(t)
			appendAll(t, table, mixedRows(0, n)...)
			table = turn(table)
			scanIs(t, table, nil, mixedRows(0, n)...)
			appendAll(t, table, mixedRows(n, 2*n)...)
			scanIs(t, table, nil, mixedRows(0, 2*n)...)
			table = turn(table)
			scanIs(t, table, nil, mixedRows(0, 2*n)...)
			appendAll(t, table, mixed(-1))
			scanIs(t, table, nil, append(mixedRows(0, 2*n), mixed(-1))...)
			if t.Failed() {
				t.Fatalf("with %d rows, %s", n, name)
			}
		}
	}
}

// P8: values at the edges of what fits, in columns where they are alike, near or far.
func TestEdgesInSegments(t *testing.T) {
	long := text(strings.Repeat("\xff", 40))
	for _, values := range [][]api.Value{
		row(number(math.MinInt64), number(math.MinInt64), text(""), number(0)),
		row(number(math.MaxInt64), number(-1), long, number(1)),
		row(number(math.MinInt64), number(0x7ff0000000000001), text("\x00"), number(1)),
		row(number(math.MinInt64+255), ofFloat(0), text("\x00"), number(0)),
		row(number(math.MaxInt64-255), ofFloat(math.Inf(-1)), text("\x80\x40"), number(0)),
	} {
		for _, other := range [][]api.Value{values, row(number(math.MaxInt64), ofFloat(5), text("é\n\xc3"), number(1)), row(number(0), number(0), text(""), number(0))} {
			for _, turn := range turns(t) {
				table := mixedTable(t)
				appendAll(t, table, values, other, values, values, other)
				scanIs(t, turn(table), nil, values, other, values, values, other)
			}
		}
	}
}

// P6, P8: rows deleted ahead of and behind a Flush or Merge; those that stay keep their order.
func TestDeleteAroundTurns(t *testing.T) {
	for name, first := range turns(t) {
		for other, second := range turns(t) {
			table := newTable(t, api.Int)
			var all [][]api.Value
			add := func(from, to int64) {
				for i := from; i < to; i++ {
					all = append(all, row(number(i)))
				}
				appendAll(t, table, all[len(all)-int(to-from):]...)
			}
			drop := func(from, to int64) {
				left := len(all)
				all = slices.DeleteFunc(all, func(values []api.Value) bool { return values[0].N >= from && values[0].N < to })
				deleteIs(t, table, list(ask(api.AtLeast, 0, number(from)), ask(api.Below, 0, number(to)), api.Test{Do: api.And}), left-len(all))
				scanIs(t, table, nil, all...)
			}
			add(0, 300)
			drop(0, 10)
			table = first(table)
			drop(5, 15)
			drop(120, 140)
			table = second(table)
			scanIs(t, table, nil, all...)
			add(0, 150)
			drop(100, 130)
			table = first(table)
			drop(140, 400)
			table = second(table)
			scanIs(t, table, nil, all...)
			foldIs(t, table, nil, 0, api.Most, number(139), len(all))
			drop(0, 139)
			drop(0, 140)
			table = first(table)
			scanIs(t, table, nil)
			add(7, 9)
			table = second(table)
			scanIs(t, table, nil, all...)
			if t.Failed() {
				t.Fatalf("with %s, %s", name, other)
			}
		}
	}
}

// P4, P8, P9: 1000 rows, wherever they are, those that were deleted not counted.
func TestMaxRowsInSegments(t *testing.T) {
	for _, turn := range turns(t) {
		table := newTable(t, api.Int)
		for i := range int64(1000) {
			appendAll(t, table, row(number(i)))
			if i%300 == 299 {
				table = turn(table)
			}
		}
		for round := range int64(3) {
			isFault(t, "Append", table.Append(row(number(-1))), api.BadMany, 0)
			isFault(t, "Append", table.Append(row(text("x"))), api.BadRow, 0)
			deleteIs(t, table, list(ask(api.Same, 0, number(500+round))), 1)
			table = turn(table)
			appendAll(t, table, row(number(2000+round)))
			table = turn(table)
		}
		isFault(t, "Append", table.Append(row(number(-1))), api.BadMany, 0)
		scanIs(t, table, list(ask(api.AtLeast, 0, number(999))), row(number(999)), row(number(2000)), row(number(2001)), row(number(2002)))
		deleteIs(t, table, nil, 1000)
		table = turn(table)
		foldIs(t, table, nil, 0, api.Sum, number(0), 0)
		appendAll(t, table, row(number(3)))
		scanIs(t, turn(table), nil, row(number(3)))
	}
}

// P7, P8: of values of which none is ahead, the first one, in whichever segments they are.
func TestFoldOverSegments(t *testing.T) {
	minus, quiet, loud := ofFloat(math.Copysign(0, -1)), number(0x7ff8000000000123), number(-1)
	for _, turn := range turns(t) {
		table := newTable(t, api.Real, api.Int)
		for i := range int64(400) {
			v := []api.Value{minus, ofFloat(0)}[i/130%2]
			if i >= 300 {
				v = []api.Value{quiet, loud}[i/350%2]
			}
			appendAll(t, table, row(v, number(i)))
		}
		table = turn(table)
		behind := func(n int64) []api.Test { return list(ask(api.AtLeast, 1, number(n))) }
		foldIs(t, table, nil, 0, api.Least, quiet, 400)
		foldIs(t, table, nil, 0, api.Most, minus, 400)
		foldIs(t, table, behind(130), 0, api.Most, ofFloat(0), 270)
		foldIs(t, table, behind(350), 0, api.Least, loud, 50)
		foldIs(t, table, nil, 1, api.Sum, number(399*200), 400)
		deleteIs(t, table, behind(260), 140)
		table = turn(table)
		foldIs(t, table, nil, 0, api.Least, minus, 260)
		foldIs(t, table, behind(129), 0, api.Least, minus, 131)
		foldIs(t, table, behind(130), 0, api.Least, ofFloat(0), 130)
	}
}

// P8: Flush and Merge of a table without rows, and again and again.
func TestTurnsOfEmptyTables(t *testing.T) {
	for _, schema := range [][]int{{1}, {2}, {3}, {4}, {1, 2, 3, 4, 1, 2}} {
		for _, turn := range turns(t) {
			table := newTable(t, schema...)
			for range 3 {
				table = turn(table)
				scanIs(t, table, nil)
				deleteIs(t, table, nil, 0)
				foldIs(t, table, nil, 0, api.Least, api.Value{}, 0)
				foldFails(t, table, nil, len(schema), api.Least, api.BadColumn, len(schema))
				isFault(t, "Append", table.Append(make([]api.Value, len(schema)+1)), api.BadRow, -1)
			}
			appendAll(t, table, make([]api.Value, len(schema)))
			scanIs(t, turn(table), nil, make([]api.Value, len(schema)))
		}
	}
}

// P8: what Flush and Merge do shows in the Dump alone: a Flush begins a segment of its own, and a Merge joins segments, without what was deleted.
func TestTurnsShowInTheDump(t *testing.T) {
	fill := func(between func(*seam.Table)) *seam.Table {
		table := mixedTable(t)
		for i := range int64(20) {
			appendAll(t, table, mixed(i), mixed(i+20))
			between(table)
		}
		return table
	}
	once := fill(func(*seam.Table) {}).Dump()
	apart := fill((*seam.Table).Flush)
	if apart.Dump() == once {
		t.Error("rows flushed apart are in one segment")
	}
	apart.Merge()
	if apart.Dump() != once {
		t.Error("merged segments are not written as one")
	}
	deleteIs(t, apart, list(ask(api.AtLeast, 0, number(27000))), 10)
	marked := apart.Dump()
	apart.Merge()
	merged := apart.Dump()
	if len(merged) >= len(marked) || len(merged) >= len(once) {
		t.Errorf("without what was deleted %d bytes, with it %d, ahead of that %d", len(merged), len(marked), len(once))
	}
	few := fill(func(*seam.Table) {})
	rows, err := apart.Scan(nil)
	deleteIs(t, few, nil, 40)
	appendAll(t, few, rows...)
	if merged != few.Dump() || err != nil {
		t.Error("something of what was deleted is kept")
	}
}

// P9: Dump flushes, but changes no answer, its own neither; and what is done behind it is not in it.
func TestDumpAndLoad(t *testing.T) {
	table := mixedTable(t)
	empty := table.Dump()
	appendAll(t, table, mixedRows(0, 300)...)
	deleteIs(t, table, list(ask(api.Below, 1, ofFloat(-90))), 29)
	full := table.Dump()
	if table.Dump() != full {
		t.Error("a second Dump is another one")
	}
	other := load(t, full)
	if other.Dump() != full {
		t.Error("the Dump of a table that was read is another one")
	}
	appendAll(t, other, mixed(1000))
	deleteIs(t, table, nil, 271)
	scanIs(t, other, nil, append(mixedRows(0, 271), mixed(1000))...)
	scanIs(t, load(t, full), nil, mixedRows(0, 271)...)
	scanIs(t, load(t, empty), nil)
	scanIs(t, table, nil)
	if load(t, empty).Dump() != empty || table.Dump() != empty {
		t.Error("the Dump of an empty table is another one")
	}
}

// P9: each type of columns is read as it was.
func TestLoadKeepsTheSchema(t *testing.T) {
	for _, schema := range [][]int{{1}, {2}, {3}, {4}, {4, 3, 2, 1}, {3, 3, 3, 3, 3, 3}, {1, 1, 2, 2, 4, 4}} {
		table := load(t, newTable(t, schema...).Dump())
		isFault(t, "Append", table.Append(make([]api.Value, len(schema)-1)), api.BadRow, -1)
		for at, kind := range schema {
			odd := map[int]api.Value{api.Int: text("x"), api.Real: text("x"), api.Text: number(1), api.Flag: number(2)}
			values := make([]api.Value, len(schema))
			values[at] = odd[kind]
			isFault(t, "Append", table.Append(values), api.BadRow, at)
			values[at] = map[int]api.Value{api.Int: number(2), api.Real: number(-2), api.Text: text("x"), api.Flag: number(1)}[kind]
			appendAll(t, table, values)
			if _, _, err := table.Fold(nil, at, api.Sum); (err == nil) != (kind == api.Int) {
				t.Errorf("%v: the sum of column %d: %v", schema, at, err)
			}
		}
	}
}

// P9: a bit turned, cut off at the end, or no dump at all.
func TestLoadRefuses(t *testing.T) {
	table := newTable(t, api.Int, api.Text)
	for i, s := range []string{"a", "b", "a", "", "cc"} {
		appendAll(t, table, row(number(int64(i)), text(s)))
	}
	table.Flush()
	deleteIs(t, table, list(ask(api.Same, 1, text("b"))), 1)
	for _, bytes := range []string{newTable(t, api.Flag).Dump(), table.Dump()} {
		for i := range 8 * len(bytes) {
			turned := []byte(bytes)
			turned[i/8] ^= 1 << (i % 8)
			loadFails(t, "a turned bit", string(turned))
		}
		for end := range len(bytes) {
			loadFails(t, "cut bytes", bytes[:end])
		}
	}
	for _, s := range wildTexts() {
		loadFails(t, "no dump", s)
	}
	_, err := seam.Load("")
	err.(*api.Fault).At = 99
	loadFails(t, "nothing", "")
}

// P2: lists that come out of segments are the caller's alone.
func TestListsOutOfSegmentsAreNew(t *testing.T) {
	for _, turn := range turns(t) {
		table := mixedTable(t)
		appendAll(t, table, mixedRows(0, 130)...)
		table = turn(table)
		for i := range 130 {
			out, err := table.Scan(nil)
			if err != nil || len(out) != 130 {
				t.Fatalf("Scan: %v, %v", out, err)
			}
			others := slices.Concat(out[:i], out[i+1:])
			fillSpare(out[i])
			if !slices.EqualFunc(others, slices.Delete(mixedRows(0, 130), i, i+1), slices.Equal) {
				t.Fatalf("writing into row %d changed the others: %v", i, others)
			}
			clear(out[:cap(out)])
		}
		scanIs(t, table, nil, mixedRows(0, 130)...)
	}
}

// P1: with an error nothing is changed, of rows in segments too.
func TestFaultsChangeNothingInSegments(t *testing.T) {
	for _, turn := range turns(t) {
		table := newTable(t, api.Int, api.Text)
		appendAll(t, table, row(number(5), text("a")), row(number(7), text("b")))
		table = turn(table)
		for at, tests := range refusedTests() {
			scanFails(t, table, tests, at)
			deleteFails(t, table, tests, at)
			foldFails(t, table, tests, 0, api.Sum, api.BadTest, at)
			scanIs(t, table, nil, row(number(5), text("a")), row(number(7), text("b")))
		}
	}
}

// anyTests: tests of which some may not be.
func anyTests(r *rand.Rand, values [][]api.Value) []api.Test {
	var tests []api.Test
	for i := range r.Intn(4) {
		at := r.Intn(4)
		tests = append(tests, ask(1+r.Intn(6), at, values[r.Intn(len(values))][at]))
		if r.Intn(3) == 0 {
			tests = append(tests, api.Test{Do: api.Not})
		}
		if i > 0 && r.Intn(20) > 0 {
			tests = append(tests, api.Test{Do: 7 + r.Intn(2)})
		}
	}
	return tests
}

func anyRow(r *rand.Rand) []api.Value {
	reals := []float64{0, math.Copysign(0, -1), 1.5, math.NaN(), math.Inf(1), -2}
	texts := []string{"", "a", "b", "\x00", "word", "\xff\xfe", strings.Repeat("long", 10)}
	n := int64(r.Intn(300))
	if r.Intn(200) == 0 {
		n = int64(r.Uint64())
	}
	return row(number(n), ofFloat(reals[r.Intn(len(reals))]), text(texts[r.Intn(len(texts))]), number(int64(r.Intn(2))))
}

// alike: both tables answer the same, of rows and of faults.
func alike(t *testing.T, one, other *seam.Table, tests []api.Test) {
	t.Helper()
	same := func(a, b error) bool {
		if a == nil || b == nil {
			return a == nil && b == nil
		}
		return *a.(*api.Fault) == *b.(*api.Fault)
	}
	rows, err := one.Scan(tests)
	rows2, err2 := other.Scan(tests)
	if !same(err, err2) || !slices.EqualFunc(rows, rows2, slices.Equal) {
		t.Fatalf("Scan(%v): %v, %v and %v, %v", tests, rows, err, rows2, err2)
	}
	for column := -1; column <= 4; column++ {
		for how := range 5 {
			v, count, err := one.Fold(tests, column, how)
			v2, count2, err2 := other.Fold(tests, column, how)
			if v != v2 || count != count2 || !same(err, err2) {
				t.Fatalf("Fold(%v, %d, %d): %v, %d, %v and %v, %d, %v", tests, column, how, v, count, err, v2, count2, err2)
			}
		}
	}
}

// P8, P9: a table that is turned between the calls answers as one whose rows stay fresh.
func TestTurnedTablesAnswerTheSame(t *testing.T) {
	names := []string{"nothing", "flush", "merge", "both", "dump", "load", "all"}
	for seed := range int64(15) {
		r := rand.New(rand.NewSource(seed))
		fresh, turned := mixedTable(t), mixedTable(t)
		values := [][]api.Value{anyRow(r)}
		for range 40 {
			for range r.Intn(80) {
				next := anyRow(r)
				values = append(values, next)
				if (fresh.Append(next) == nil) != (turned.Append(next) == nil) {
					t.Fatal("Append is refused by one alone")
				}
			}
			turned = turns(t)[names[r.Intn(len(names))]](turned)
			alike(t, fresh, turned, nil)
			tests := anyTests(r, values)
			alike(t, fresh, turned, tests)
			if len(tests) == 0 {
				continue
			}
			count, err := fresh.Delete(tests)
			count2, err2 := turned.Delete(tests)
			if count != count2 || (err == nil) != (err2 == nil) {
				t.Fatalf("Delete(%v): %d, %v and %d, %v", tests, count, err, count2, err2)
			}
		}
		if bytes := turned.Dump(); load(t, bytes).Dump() != bytes {
			t.Fatal("the Dump of a table that was read is another one")
		}
	}
}

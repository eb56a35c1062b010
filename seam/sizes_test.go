package seam_test

import (
	"math"
	"math/rand"
	"slices"
	"strconv"
	"strings"
	"testing"

	"seam/api"
	"seam/seam"
)

// most: how many bytes P10 grants the Dump of a new table to which these rows were appended.
func most(schema []int, rows [][]api.Value) int {
	bytes := 64
	for some := range slices.Chunk(rows, 128) {
		bytes += 24
		for at, kind := range schema {
			var values []api.Value
			for _, one := range some {
				values = append(values, one[at])
			}
			bytes += 24 + mostOf(kind, values)
		}
	}
	return bytes
}

// mostOf: the least of what P10 names for one column of a segment.
func mostOf(kind int, values []api.Value) int {
	n, texts, words := len(values), 0, 0
	least, highest := values[0].N, values[0].N
	different := map[api.Value]int{}
	for _, v := range values {
		texts += len(v.S)
		least, highest = min(least, v.N), max(highest, v.N)
		if different[v]++; different[v] == 1 {
			words += 1 + len(v.S)
		}
	}
	if len(different) == 1 {
		return len(values[0].S)
	}
	switch kind {
	case api.Text:
		return n + min(texts, words)
	case api.Flag:
		return n
	case api.Int:
		if uint64(highest)-uint64(least) <= 255 {
			return n
		}
	}
	return 8 * n
}

// small: the Dump of a table with these rows has at most so many bytes, and is read as these rows.
func small(t *testing.T, what string, schema []int, rows [][]api.Value, bytes int) {
	t.Helper()
	table := newTable(t, schema...)
	appendAll(t, table, rows...)
	dumped := table.Dump()
	if len(dumped) > bytes {
		t.Errorf("%s, %d rows: %d bytes, want at most %d", what, len(rows), len(dumped), bytes)
	}
	got, err := load(t, dumped).Scan(nil)
	if err != nil || !slices.EqualFunc(got, rows, slices.Equal) {
		t.Errorf("%s, %d rows: other rows were read, %v", what, len(rows), err)
	}
}

// way: a column, and how many bytes P10 grants for n rows of it in a segment, without the 24.
type way struct {
	kind  int
	value func(i int) api.Value
	bytes func(n int) int
}

// ways: a column for each way that P10 names, and those at their edges.
func ways() map[string]way {
	none := func(n int) int { return 0 }
	one := func(n int) int { return n }
	eight := func(n int) int { return 8 * n }
	numbers := func(of func(i int) int64) func(i int) api.Value {
		return func(i int) api.Value { return number(of(i)) }
	}
	reals := func(of func(i int) float64) func(i int) api.Value {
		return func(i int) api.Value { return ofFloat(of(i)) }
	}
	texts := func(of func(i int) string) func(i int) api.Value {
		return func(i int) api.Value { return text(of(i)) }
	}
	edge := func(first, least, most int64) func(i int) api.Value {
		return numbers(func(i int) int64 { return []int64{first, least, most}[i%3] })
	}
	long := strings.Repeat("\xff", 40)
	return map[string]way{
		"the same numbers":          {api.Int, numbers(func(int) int64 { return -77 }), none},
		"the least number":          {api.Int, numbers(func(int) int64 { return math.MinInt64 }), none},
		"numbers in a row":          {api.Int, numbers(func(i int) int64 { return int64(1000 + i) }), one},
		"numbers down to the least": {api.Int, numbers(func(i int) int64 { return math.MinInt64 + int64(999-i) }), one},
		"numbers up to the most":    {api.Int, numbers(func(i int) int64 { return math.MaxInt64 - int64(999-i) }), one},
		"255 above":                 {api.Int, edge(-100, -200, 55), one},
		"256 above":                 {api.Int, edge(-100, -200, 56), eight},
		"255 above the least":       {api.Int, edge(math.MinInt64+1, math.MinInt64, math.MinInt64+255), one},
		"255 below the most":        {api.Int, edge(math.MaxInt64-1, math.MaxInt64-255, math.MaxInt64), one},
		"the least and the most":    {api.Int, edge(0, math.MinInt64, math.MaxInt64), eight},
		"around the end":            {api.Int, edge(math.MaxInt64, math.MinInt64, math.MinInt64), eight},
		"wide numbers":              {api.Int, numbers(func(i int) int64 { return int64(i) * 0x123456789abcdef }), eight},
		"the same Real":             {api.Real, reals(func(int) float64 { return 0.1 }), none},
		"the same no number":        {api.Real, numbers(func(int) int64 { return 0x7ff8000000000123 }), none},
		"0 and -0":                  {api.Real, reals(func(i int) float64 { return math.Copysign(0, float64(i%2)-0.5) }), eight},
		"other no numbers":          {api.Real, numbers(func(i int) int64 { return 0x7ff8000000000000 + int64(i) }), eight},
		"Reals":                     {api.Real, reals(func(i int) float64 { return float64(i) / 3 }), eight},
		"flags of 0":                {api.Flag, numbers(func(int) int64 { return 0 }), none},
		"flags of 1":                {api.Flag, numbers(func(int) int64 { return 1 }), none},
		"flags":                     {api.Flag, numbers(func(i int) int64 { return int64(i % 2) }), one},
		"the empty text":            {api.Text, texts(func(int) string { return "" }), none},
		"the same long text":        {api.Text, texts(func(int) string { return long }), func(n int) int { return 40 }},
		"two texts":                 {api.Text, texts(func(i int) string { return long[i%2:] }), func(n int) int { return n + 1 + 40 + 1 + 39 }},
		"the empty text among long": {api.Text, texts(func(i int) string { return long[40*(i%2):] }), func(n int) int { return n + 1 + 40 + 1 }},
		"texts of 0 and 1":          {api.Text, texts(func(i int) string { return "x"[i%2:] }), func(n int) int { return n + 3 }},
		"different long texts":      {api.Text, texts(func(i int) string { return strconv.Itoa(1000+i) + long[4:] }), func(n int) int { return n + 40*n }},
		"different short texts":     {api.Text, texts(func(i int) string { return string([]byte{byte(i), byte(i >> 8)}) }), func(n int) int { return n + 2*n }},
		"each text twice":           {api.Text, texts(func(i int) string { return strconv.Itoa(1000 + i/2) }), func(n int) int { return n + 5*((n+1)/2) }},
	}
}

// P10: whatever way is the least, of one column and of six.
func TestSizes(t *testing.T) {
	for name, c := range ways() {
		for _, n := range []int{0, 1, 2, 3, 127, 128, 129, 130, 255, 256, 257, 999, 1000} {
			bytes := 0
			for first := 0; first < n; first += 128 {
				bytes += c.bytes(min(128, n-first))
			}
			segments := (n + 127) / 128
			for _, columns := range []int{1, 6} {
				var rows [][]api.Value
				for i := range n {
					rows = append(rows, slices.Repeat(row(c.value(i)), columns))
				}
				schema := slices.Repeat([]int{c.kind}, columns)
				small(t, name, schema, rows, 64+24*segments+columns*(24*segments+bytes))
				small(t, name+", by the words", schema, rows, most(schema, rows))
			}
		}
	}
}

// P10, example 6.
func TestSizeOfTheExample(t *testing.T) {
	var rows [][]api.Value
	for i := range int64(128) {
		rows = append(rows, row(number(1000+i)))
	}
	small(t, "1000 to 1127", []int{api.Int}, rows, 64+24+24+128)
}

// P10: each segment takes the way that is the least there, whatever the others take.
func TestSizesOfSegmentsApart(t *testing.T) {
	var rows [][]api.Value
	for range 128 {
		rows = append(rows, row(number(7), text("only")))
	}
	for i := range int64(128) {
		rows = append(rows, row(number(-i), text([]string{"one", "other"}[i%2])))
	}
	for i := range int64(128) {
		rows = append(rows, row(number(i<<40), text(strconv.FormatInt(i+100, 10))))
	}
	rows = append(rows, row(number(math.MinInt64), text(strings.Repeat("x", 40))))
	const around = 64 + 4*(24+2*24)
	small(t, "other ways", []int{api.Int, api.Text}, rows, around+(0+4)+(128+128+4+6)+(8*128+128+3*128)+(0+40))
}

// P10: tables of any columns and rows.
func TestSizesOfAnyTables(t *testing.T) {
	r := rand.New(rand.NewSource(1))
	for range 300 {
		var schema []int
		var makers []func() api.Value
		for range 1 + r.Intn(6) {
			kind := 1 + r.Intn(4)
			schema = append(schema, kind)
			makers = append(makers, anyColumn(r, kind))
		}
		var rows [][]api.Value
		for range r.Intn(1 + r.Intn(500)) {
			var values []api.Value
			for _, next := range makers {
				values = append(values, next())
			}
			rows = append(rows, values)
		}
		small(t, "columns "+strconv.Itoa(len(schema)), schema, rows, most(schema, rows))
	}
}

// anyColumn gives values of few or many kinds, near one another or far.
func anyColumn(r *rand.Rand, kind int) func() api.Value {
	first, spread := int64(r.Uint64()), uint64(1)<<r.Intn(63)
	if r.Intn(3) == 0 {
		spread = 254 + uint64(r.Intn(5))
	}
	length := r.Intn(41)
	letters := 1 + r.Intn(3)
	return func() api.Value {
		switch kind {
		case api.Text:
			s := make([]byte, r.Intn(1+length))
			for i := range s {
				s[i] = byte(r.Intn(letters))
			}
			return text(string(s))
		case api.Flag:
			return number(int64(r.Intn(2)))
		}
		return number(first + int64(r.Uint64()%spread))
	}
}

// P9: one bit turned, or cut off at the end, whatever ways the columns are written in.
func TestDamagedColumns(t *testing.T) {
	for name, c := range ways() {
		for n, step := range map[int]int{1: 1, 6: 1, 130: 37} {
			table := newTable(t, c.kind)
			for i := range n {
				appendAll(t, table, row(c.value(i)))
			}
			damaged(t, name, table.Dump(), step)
		}
	}
}

// P9: a table as large as can be.
func TestDamagedLargeTable(t *testing.T) {
	table := newTable(t, api.Int, api.Real, api.Text, api.Flag, api.Text, api.Int)
	for i := range int64(1000) {
		appendAll(t, table, append(mixed(i), text(strings.Repeat("y", int(i%41))), number(i)))
	}
	damaged(t, "a large table", table.Dump(), 997)
}

// damaged: of a Dump's bits every step-th one turned, and of its ends every step-th one cut off, and all at its two ends.
func damaged(t *testing.T, what, bytes string, step int) {
	t.Helper()
	for i := 0; i < 8*len(bytes); i += step {
		turned := []byte(bytes)
		turned[i/8] ^= 1 << (i % 8)
		loadFails(t, what+", a bit turned", string(turned))
	}
	for end := len(bytes) - 1; end >= 0; end -= step {
		loadFails(t, what+", cut off", bytes[:end])
	}
	for end := range min(64, len(bytes)) {
		loadFails(t, what+", cut off", bytes[:end])
		loadFails(t, what+", cut off", bytes[:len(bytes)-1-end])
	}
	load(t, bytes)
}

// P1, P9: of any other bytes BadBytes, At 0, or a table, which answers as tables do.
func TestLoadOfAnyBytes(t *testing.T) {
	r := rand.New(rand.NewSource(1))
	table := mixedTable(t)
	appendAll(t, table, mixedRows(0, 150)...)
	one := table.Dump()
	deleteIs(t, table, list(ask(api.Same, 3, number(1))), 75)
	other := table.Dump()
	for _, bytes := range []string{"x", one + "x", "x" + one, one + one, one + other, one[:40] + other[40:], one[1:], one[8:] + one[:8]} {
		faultOrTable(t, bytes)
	}
	for range 5000 {
		changed := []byte([]string{one, other}[r.Intn(2)])
		for range 2 + r.Intn(4) {
			changed[r.Intn(len(changed))] = byte(r.Intn(256))
		}
		from := r.Intn(len(changed))
		switch r.Intn(4) {
		case 0:
			changed = slices.Insert(changed, from, changed[:r.Intn(20)]...)
		case 1:
			changed = slices.Delete(changed, from, min(len(changed), from+r.Intn(20)))
		case 2:
			r.Read(changed)
		}
		faultOrTable(t, string(changed))
	}
}

func faultOrTable(t *testing.T, bytes string) {
	t.Helper()
	table, err := seam.Load(bytes)
	if err != nil {
		loadFails(t, "any bytes", bytes)
		return
	}
	rows, err := table.Scan(nil)
	if err != nil || len(rows) > api.MaxRows {
		t.Errorf("Load(%q): a table of %d rows, %v", bytes, len(rows), err)
	}
	scanIs(t, load(t, table.Dump()), nil, rows...)
	deleteIs(t, table, nil, len(rows))
	scanIs(t, table, nil)
}

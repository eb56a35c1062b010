package segment

import (
	"runtime"
	"slices"
	"strconv"
	"testing"
	"time"

	"seam/api"
	"seam/wire"
)

func schema() []int { return []int{api.Int, api.Real, api.Text, api.Flag} }

// many: as many rows, no two of them alike.
func many(count int) [][]api.Value {
	var rows [][]api.Value
	for i := range int64(count) {
		rows = append(rows, []api.Value{{N: i * i}, {N: -i}, {S: strconv.FormatInt(i/3, 10)}, {N: i % 2}})
	}
	return rows
}

func all([]api.Value) bool { return true }

func sameRows(a, b [][]api.Value) bool { return slices.EqualFunc(a, b, slices.Equal) }

func found(segments []*Segment, wanted func([]api.Value) bool) [][]api.Value {
	var rows [][]api.Value
	for _, part := range Find(segments, wanted) {
		rows = append(rows, part.Rows...)
	}
	return rows
}

// P8: segments have at most 128 rows; and as few of them as can be.
func TestCut(t *testing.T) {
	for count, want := range map[int][]int{
		0: nil, 1: {1}, 127: {127}, 128: {128}, 129: {128, 1}, 256: {128, 128}, 257: {128, 128, 1}, 1000: {128, 128, 128, 128, 128, 128, 128, 104},
	} {
		rows := many(count)
		segments := Cut(schema(), rows)
		var got []int
		for _, s := range segments {
			got = append(got, s.Live())
		}
		if !slices.Equal(got, want) {
			t.Errorf("%d rows: %v, want %v", count, got, want)
		}
		if !sameRows(rows, many(count)) {
			t.Errorf("%d rows: Cut changed them", count)
		}
		if !sameRows(found(segments, all), rows) {
			t.Errorf("%d rows: others are found, or in another order", count)
		}
	}
}

// Cut keeps nothing of the rows.
func TestCutCopies(t *testing.T) {
	rows := many(130)
	segments := Cut(schema(), rows)
	for _, row := range rows {
		clear(row)
	}
	if !sameRows(found(segments, all), many(130)) {
		t.Error("writing into the rows changed the segments")
	}
}

func TestFindTellsPlaces(t *testing.T) {
	segments := Cut(schema(), many(300))
	three := func(row []api.Value) bool { return row[0].N == 3*3 || row[0].N == 128*128 || row[0].N == 255*255 }
	parts := Find(segments, three)
	if len(parts) != 3 || !slices.Equal(parts[0].Places, []int{3}) || !slices.Equal(parts[1].Places, []int{0, 127}) || len(parts[2].Places) != 0 {
		t.Errorf("%v", parts)
	}
	if !sameRows(parts[1].Rows, [][]api.Value{many(300)[128], many(300)[255]}) {
		t.Errorf("%v", parts[1].Rows)
	}
}

// However long each segment takes, its part is in its place.
func TestFindKeepsTheOrder(t *testing.T) {
	rows := many(7 * api.MaxSegment)
	segments := Cut(schema(), rows)
	for slow := range 3 {
		wanted := func(row []api.Value) bool {
			if row[0].N%3 == int64(slow) && row[3].N == 0 {
				runtime.Gosched()
			}
			return true
		}
		if !sameRows(found(segments, wanted), rows) {
			t.Errorf("%d: another order", slow)
		}
	}
}

// The first segment is not told until the second one was looked at, nor the other way round: so there are two that read.
func TestTwoRead(t *testing.T) {
	segments := Cut(schema(), many(200))
	first, second := make(chan bool, 200), make(chan bool, 200)
	done := make(chan [][]api.Value)
	go func() {
		done <- found(segments, func(row []api.Value) bool {
			switch row[0].N {
			case 0:
				first <- true
				<-second
			case 128 * 128:
				second <- true
				<-first
			}
			return true
		})
	}()
	select {
	case rows := <-done:
		if !sameRows(rows, many(200)) {
			t.Error("others are found")
		}
	case <-time.After(10 * time.Second):
		t.Error("one waits for the other")
	}
}

func TestFindLeavesNoGoroutine(t *testing.T) {
	before := runtime.NumGoroutine()
	for count := range 5 {
		Find(Cut(schema(), many(count*100)), all)
	}
	for range 1000 {
		if runtime.NumGoroutine() <= before {
			return
		}
		time.Sleep(time.Millisecond)
	}
	t.Errorf("%d goroutines, %d ahead", runtime.NumGoroutine(), before)
}

// Lists that are found are new ones.
func TestFindGivesNewMemory(t *testing.T) {
	segments := Cut(schema(), many(200))
	rows := found(segments, all)
	for i, row := range rows {
		row = row[:cap(row)]
		for at := range row {
			row[at] = api.Value{N: 77}
		}
		if i+1 < len(rows) && !slices.Equal(rows[i+1], many(200)[i+1]) {
			t.Fatalf("writing into row %d changed the next one", i)
		}
	}
	if !sameRows(found(segments, all), many(200)) {
		t.Error("writing into what was found changed the segments")
	}
}

func TestDrop(t *testing.T) {
	s := Cut(schema(), many(128))[0]
	places := []int{0, 1, 62, 63, 64, 65, 126, 127}
	s.Drop(places)
	s.Drop(places[:3])
	if s.Live() != 120 {
		t.Errorf("%d rows, want 120", s.Live())
	}
	part := Find([]*Segment{s}, all)[0]
	for place := range 128 {
		if slices.Contains(part.Places, place) == slices.Contains(places, place) {
			t.Errorf("%d: found and deleted, or neither", place)
		}
	}
	for i, place := range part.Places {
		if !slices.Equal(part.Rows[i], many(128)[place]) {
			t.Errorf("place %d: %v", place, part.Rows[i])
		}
	}
	var every []int
	for place := range 128 {
		every = append(every, place)
	}
	s.Drop(every)
	if s.Live() != 0 || len(found([]*Segment{s}, all)) != 0 {
		t.Error("rows are left")
	}
}

// P9: what is read has the same rows, those that were deleted at the same places, and is written as before.
func TestAppendAndRead(t *testing.T) {
	for _, count := range []int{1, 2, 63, 64, 65, 127, 128} {
		for _, places := range [][]int{nil, {0}, {count - 1}, {0, count / 2, count - 1}} {
			s := Cut(schema(), many(count))[0]
			s.Drop(places)
			bytes := string(s.Append([]byte("ahead")))
			from := wire.NewReader(bytes[len("ahead"):] + "behind")
			read := Read(from, schema())
			if from.Spoilt() || from.Left() != len("behind") {
				t.Fatalf("%d rows: spoilt: %v, %d left", count, from.Spoilt(), from.Left())
			}
			if read.Live() != s.Live() || string(read.Append([]byte("ahead"))) != bytes {
				t.Errorf("%d rows, %v deleted: another segment", count, places)
			}
			if !sameRows(found([]*Segment{read}, all), found([]*Segment{s}, all)) {
				t.Errorf("%d rows, %v deleted: other rows", count, places)
			}
		}
	}
}

// What was not deleted takes no bytes for marks.
func TestBytesOfMarks(t *testing.T) {
	s := Cut([]int{api.Text}, [][]api.Value{{{S: "abc"}}, {{S: "abc"}}})[0]
	if got := string(s.Append(nil)); got != "\x02\x00\x01\x03abc" {
		t.Errorf("%q", got)
	}
	s.Drop([]int{1})
	if got := string(s.Append(nil)); got != "\x02\x01\x02\x00\x00\x00\x00\x00\x00\x00\x00\x00\x00\x00\x00\x00\x00\x00\x01\x03abc" {
		t.Errorf("%q", got)
	}
}

func TestReadRefuses(t *testing.T) {
	number := func(n byte) string { return string([]byte{n, 0, 0, 0, 0, 0, 0, 0}) }
	column := "\x01" + number(5)
	for name, bytes := range map[string]string{
		"nothing":                    "",
		"no rows":                    "\x00\x00" + column,
		"129 rows":                   "\x81\x00" + column,
		"255 rows":                   "\xff\x00" + column,
		"no such marks":              "\x02\x02" + column,
		"marks that are cut":         "\x02\x01" + number(1),
		"a mark of a third row":      "\x02\x01" + number(4) + number(0) + column,
		"a mark of the 65th row":     "\x02\x01" + number(0) + number(1) + column,
		"no column":                  "\x02\x00",
		"a column of no such way":    "\x02\x00\x07" + number(5),
		"a column with too few rows": "\x02\x00\x02" + number(5) + "\x01",
	} {
		from := wire.NewReader(bytes)
		if read := Read(from, []int{api.Int}); !from.Spoilt() || read.Live() != 0 {
			t.Errorf("%s: not refused", name)
		}
	}
	from := wire.NewReader("\x02\x01" + number(2) + number(0) + column)
	if read := Read(from, []int{api.Int}); from.Spoilt() || read.Live() != 1 {
		t.Error("a mark of the second row of two is refused")
	}
}

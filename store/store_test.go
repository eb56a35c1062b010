package store

import (
	"errors"
	"slices"
	"testing"

	"seam/api"
)

// wraps: the error is no fault itself, but has that one in it.
func wraps(t *testing.T, err error, kind, at int) {
	t.Helper()
	if _, bare := err.(*api.Fault); bare {
		t.Errorf("%v: the fault itself, not an error that wraps it", err)
	}
	var found *api.Fault
	if !errors.As(err, &found) || found.Kind != kind || found.At != at {
		t.Errorf("%v: found %v, want %d, %d", err, found, kind, at)
	}
}

func TestRefusalsWrapFaults(t *testing.T) {
	_, err := New(nil)
	wraps(t, err, api.BadSchema, -1)
	_, err = New([]int{api.Int, 5})
	wraps(t, err, api.BadSchema, 1)
	s, err := New([]int{api.Int})
	if err != nil {
		t.Fatal(err)
	}
	wraps(t, s.Append(nil), api.BadRow, -1)
	wraps(t, s.Append([]api.Value{{S: "x"}}), api.BadRow, 0)
	_, err = s.Scan([]api.Test{{}})
	wraps(t, err, api.BadTest, 0)
	_, err = s.Delete([]api.Test{{}})
	wraps(t, err, api.BadTest, 0)
	_, _, err = s.Fold([]api.Test{{}}, 0, api.Sum)
	wraps(t, err, api.BadTest, 0)
	_, _, err = s.Fold(nil, 1, api.Sum)
	wraps(t, err, api.BadColumn, 1)
	_, err = Load("")
	wraps(t, err, api.BadBytes, 0)
	for range api.MaxRows {
		if err := s.Append([]api.Value{{}}); err != nil {
			t.Fatal(err)
		}
	}
	wraps(t, s.Append([]api.Value{{}}), api.BadMany, 0)
}

// filled: a store of one Int column, with the numbers from 0 on.
func filled(t *testing.T, rows int) *Store {
	t.Helper()
	s, err := New([]int{api.Int})
	if err != nil {
		t.Fatal(err)
	}
	for i := range int64(rows) {
		if err := s.Append([]api.Value{{N: i}}); err != nil {
			t.Fatal(err)
		}
	}
	return s
}

func dropBelow(t *testing.T, s *Store, bound int64, want int) {
	t.Helper()
	if count, err := s.Delete([]api.Test{{Do: api.Below, V: api.Value{N: bound}}}); count != want || err != nil {
		t.Fatalf("Delete below %d: %d, %v, want %d", bound, count, err, want)
	}
}

// sizesAre: how many rows each segment has, and how many are fresh.
func sizesAre(t *testing.T, s *Store, fresh int, want ...int) {
	t.Helper()
	var sizes []int
	for _, some := range s.segments {
		sizes = append(sizes, some.Live())
	}
	if !slices.Equal(sizes, want) || len(s.fresh) != fresh {
		t.Errorf("segments %v, %d fresh rows; want %v, %d", sizes, len(s.fresh), want, fresh)
	}
}

// Rows that are no more, or are in segments, are not kept in the buffer's spare room.
func nothingBehind(t *testing.T, s *Store) {
	t.Helper()
	for _, row := range s.fresh[len(s.fresh):cap(s.fresh)] {
		if row != nil {
			t.Errorf("still kept: %v", row)
		}
	}
}

func TestDeleteLetsGo(t *testing.T) {
	s := filled(t, 10)
	dropBelow(t, s, 7, 7)
	sizesAre(t, s, 3)
	nothingBehind(t, s)
}

// P8: all fresh rows, into segments of at most 128.
func TestFlush(t *testing.T) {
	s := filled(t, 300)
	sizesAre(t, s, 300)
	s.Flush()
	sizesAre(t, s, 0, 128, 128, 44)
	nothingBehind(t, s)
	s.Flush()
	sizesAre(t, s, 0, 128, 128, 44)
	if err := s.Append([]api.Value{{N: 5}}); err != nil {
		t.Fatal(err)
	}
	sizesAre(t, s, 1, 128, 128, 44)
	s.Dump()
	sizesAre(t, s, 0, 128, 128, 44, 1)
}

// P8: segments are written anew, without what was deleted; fresh rows stay so.
func TestMerge(t *testing.T) {
	s := filled(t, 150)
	s.Flush()
	dropBelow(t, s, 100, 100)
	sizesAre(t, s, 0, 28, 22)
	marked := len(s.Dump())
	for i := range int64(200) {
		if err := s.Append([]api.Value{{N: i}}); err != nil {
			t.Fatal(err)
		}
	}
	s.Merge()
	sizesAre(t, s, 200, 50)
	dropBelow(t, s, 200, 250)
	s.Merge()
	sizesAre(t, s, 0)
	for i := range int64(50) {
		if err := s.Append([]api.Value{{N: 100 + i}}); err != nil {
			t.Fatal(err)
		}
		s.Flush()
	}
	s.Merge()
	sizesAre(t, s, 0, 50)
	if merged := len(s.Dump()); merged > marked-100 {
		t.Errorf("%d bytes, with 100 deleted rows more %d", merged, marked)
	}
}

// A segment that has no rows any more is not kept, so that a table that is filled and emptied does not grow.
func TestEmptySegmentsGo(t *testing.T) {
	s := filled(t, 0)
	empty := s.Dump()
	for round := range int64(20) {
		for i := range int64(130) {
			if err := s.Append([]api.Value{{N: round + i}}); err != nil {
				t.Fatal(err)
			}
		}
		s.Flush()
		dropBelow(t, s, round+129, 129)
		sizesAre(t, s, 0, 1)
		dropBelow(t, s, round+130, 1)
		sizesAre(t, s, 0)
	}
	if s.Dump() != empty {
		t.Error("something is kept of rows that were deleted")
	}
}

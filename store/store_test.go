package store

import (
	"errors"
	"testing"

	"seam/api"
)

// wraps: the error is no fault itself, but has that one in it.
func wraps(t *testing.T, err error, kind, at int) {
	t.Helper()
	if _, bare := err.(*api.Fault); bare {
		t.Errorf("%v: the fault itself, not an error that wraps it", err)
	}
	var found *api.Fault
	if !errors.As(err, &found) || found.Kind != kind || found.At != at {
		t.Errorf("%v: found %v, want %d, %d", err, found, kind, at)
	}
}

func TestRefusalsWrapFaults(t *testing.T) {
	_, err := New(nil)
	wraps(t, err, api.BadSchema, -1)
	_, err = New([]int{api.Int, 5})
	wraps(t, err, api.BadSchema, 1)
	s, err := New([]int{api.Int})
	if err != nil {
		t.Fatal(err)
	}
	wraps(t, s.Append(nil), api.BadRow, -1)
	wraps(t, s.Append([]api.Value{{S: "x"}}), api.BadRow, 0)
	_, err = s.Scan([]api.Test{{}})
	wraps(t, err, api.BadTest, 0)
	_, err = s.Delete([]api.Test{{}})
	wraps(t, err, api.BadTest, 0)
	_, _, err = s.Fold([]api.Test{{}}, 0, api.Sum)
	wraps(t, err, api.BadTest, 0)
	_, _, err = s.Fold(nil, 1, api.Sum)
	wraps(t, err, api.BadColumn, 1)
	for range api.MaxRows {
		if err := s.Append([]api.Value{{}}); err != nil {
			t.Fatal(err)
		}
	}
	wraps(t, s.Append([]api.Value{{}}), api.BadMany, 0)
}

// Rows that are no more are not kept in the buffer's spare room.
func TestDeleteLetsGo(t *testing.T) {
	s, err := New([]int{api.Int})
	if err != nil {
		t.Fatal(err)
	}
	for i := range int64(10) {
		if err := s.Append([]api.Value{{N: i}}); err != nil {
			t.Fatal(err)
		}
	}
	count, err := s.Delete([]api.Test{{Do: api.Below, V: api.Value{N: 7}}})
	if count != 7 || err != nil || len(s.fresh) != 3 {
		t.Fatalf("Delete: %d, %v; %d rows left", count, err, len(s.fresh))
	}
	for _, row := range s.fresh[3:cap(s.fresh)] {
		if row != nil {
			t.Errorf("still kept: %v", row)
		}
	}
}

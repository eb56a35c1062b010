package store

import (
	"errors"
	"testing"

	"seam/api"
)

// wraps: the error is no fault itself, but has that one in it.
func wraps(t *testing.T, err error, kind, at int) {
	t.Helper()
	if _, bare := err.(*api.Fault); bare {
		t.Errorf("%v: the fault itself, not an error that wraps it", err)
	}
	var found *api.Fault
	if !errors.As(err, &found) || found.Kind != kind || found.At != at {
		t.Errorf("%v: found %v, want %d, %d", err, found, kind, at)
	}
}

func TestRefusalsWrapFaults(t *testing.T) {
	_, err := New(nil)
	wraps(t, err, api.BadSchema, -1)
	_, err = New([]int{api.Int, 5})
	wraps(t, err, api.BadSchema, 1)
	s, err := New([]int{api.Int})
	if err != nil {
		t.Fatal(err)
	}
	wraps(t, s.Append(nil), api.BadRow, -1)
	wraps(t, s.Append([]api.Value{{S: "x"}}), api.BadRow, 0)
	_, err = s.Scan([]api.Test{{}})
	wraps(t, err, api.BadTest, 0)
	for range api.MaxRows {
		if err := s.Append([]api.Value{{}}); err != nil {
			t.Fatal(err)
		}
	}
	wraps(t, s.Append([]api.Value{{}}), api.BadMany, 0)
}

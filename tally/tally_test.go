package tally

import (
	"errors"
	"math"
	"testing"

	"seam/api"
)

func TestNewRefuses(t *testing.T) {
	schema := []int{api.Int, api.Real, api.Text, api.Flag}
	for _, c := range []struct{ at, how int }{
		{-1, api.Sum}, {4, api.Sum}, {4, api.Least}, {math.MinInt, api.Most}, {math.MaxInt, api.Most},
		{0, 0}, {0, 4}, {0, -1}, {3, math.MinInt}, {3, math.MaxInt}, {9, 9},
		{1, api.Sum}, {2, api.Sum}, {3, api.Sum},
	} {
		made, err := New(schema, c.at, c.how)
		var found *api.Fault
		if _, bare := err.(*api.Fault); bare || !errors.As(err, &found) || *found != (api.Fault{Kind: api.BadColumn, At: c.at}) {
			t.Errorf("New(%d, %d): %v", c.at, c.how, err)
		}
		if made != nil {
			t.Errorf("New(%d, %d): a tally beside an error", c.at, c.how)
		}
	}
}

func resultIs(t *testing.T, kind, how int, want api.Value, values ...api.Value) {
	t.Helper()
	made, err := New([]int{kind}, 0, how)
	if err != nil {
		t.Fatal(err)
	}
	for _, v := range values {
		made.Add(v)
	}
	if value, count := made.Result(); value != want || count != len(values) {
		t.Errorf("type %d, way %d, of %v: %v, %d, want %v", kind, how, values, value, count, want)
	}
}

func TestOfNoValues(t *testing.T) {
	resultIs(t, api.Int, api.Sum, api.Value{})
	for _, kind := range []int{api.Int, api.Real, api.Text, api.Flag} {
		resultIs(t, kind, api.Least, api.Value{})
		resultIs(t, kind, api.Most, api.Value{})
	}
}

func TestSum(t *testing.T) {
	most, least := api.Value{N: math.MaxInt64}, api.Value{N: math.MinInt64}
	resultIs(t, api.Int, api.Sum, api.Value{N: -7}, api.Value{N: -7})
	resultIs(t, api.Int, api.Sum, api.Value{N: 3}, api.Value{N: 5}, api.Value{N: -7}, api.Value{N: 5})
	resultIs(t, api.Int, api.Sum, api.Value{N: -2}, most, most)
	resultIs(t, api.Int, api.Sum, api.Value{}, least, least)
	resultIs(t, api.Int, api.Sum, api.Value{N: -1}, most, least)
	resultIs(t, api.Int, api.Sum, most, least, api.Value{N: -1})
}

// The value that stands before any comes in is no value of the column's.
func TestLeastAndMostStartAtTheFirst(t *testing.T) {
	resultIs(t, api.Int, api.Least, api.Value{N: 5}, api.Value{N: 7}, api.Value{N: 5}, api.Value{N: 6})
	resultIs(t, api.Int, api.Most, api.Value{N: -5}, api.Value{N: -7}, api.Value{N: -5}, api.Value{N: -6})
	resultIs(t, api.Text, api.Least, api.Value{S: "b"}, api.Value{S: "c"}, api.Value{S: "b"})
	resultIs(t, api.Text, api.Most, api.Value{S: "c"}, api.Value{S: "b"}, api.Value{S: "c"})
	resultIs(t, api.Flag, api.Least, api.Value{N: 1}, api.Value{N: 1}, api.Value{N: 1})
	none := api.Value{N: 0x7ff8000000000123}
	resultIs(t, api.Real, api.Most, none, none, api.Value{N: -1})
	resultIs(t, api.Real, api.Least, none, api.Value{}, none, api.Value{N: -1})
}

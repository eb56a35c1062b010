package column

import (
	"errors"
	"math"
	"strings"
	"testing"

	"seam/api"
)

func TestIsType(t *testing.T) {
	for _, kind := range []int{1, 2, 3, 4} {
		if !IsType(kind) {
			t.Errorf("%d is a type", kind)
		}
	}
	for _, kind := range []int{0, 5, -1, math.MinInt, math.MaxInt, 1 << 32, 1<<32 + 1} {
		if IsType(kind) {
			t.Errorf("%d is no type", kind)
		}
	}
}

func TestCheckSchema(t *testing.T) {
	for _, c := range []struct {
		schema []int
		at     int
	}{
		{nil, -1}, {[]int{1, 1, 1, 1, 1, 1, 1}, -1}, {[]int{0}, 0}, {[]int{1, 2, 5}, 2}, {[]int{1, 1, 1, 1, 1, 1, 1, 9}, 7},
	} {
		var found *api.Fault
		if err := CheckSchema(c.schema); !errors.As(err, &found) || *found != (api.Fault{Kind: api.BadSchema, At: c.at}) {
			t.Errorf("%v: %v, want BadSchema, %d", c.schema, err, c.at)
		}
	}
	for _, schema := range [][]int{{1}, {4}, {1, 2, 3, 4, 4, 3}} {
		if err := CheckSchema(schema); err != nil {
			t.Errorf("%v: %v", schema, err)
		}
	}
}

func TestFits(t *testing.T) {
	full := strings.Repeat("\xff", api.MaxText)
	for _, c := range []struct {
		v                         api.Value
		isInt, real, text, isFlag bool
	}{
		{api.Value{}, true, true, true, true},
		{api.Value{N: 1}, true, true, false, true},
		{api.Value{N: 2}, true, true, false, false},
		{api.Value{N: -1}, true, true, false, false},
		{api.Value{N: math.MinInt64}, true, true, false, false},
		{api.Value{N: math.MaxInt64}, true, true, false, false},
		{api.Value{S: "\x00"}, false, false, true, false},
		{api.Value{N: 1, S: "a"}, false, false, false, false},
		{api.Value{S: full}, false, false, true, false},
		{api.Value{S: full + "x"}, false, false, false, false},
	} {
		for kind, want := range map[int]bool{api.Int: c.isInt, api.Real: c.real, api.Text: c.text, api.Flag: c.isFlag, 0: false, 5: false} {
			if Fits(kind, c.v) != want {
				t.Errorf("Fits(%d, %v): want %v", kind, c.v, want)
			}
		}
	}
}

// answersAre: what the deeds from Same to AtLeast answer, one sign each.
func answersAre(t *testing.T, kind int, a, b api.Value, want string) {
	t.Helper()
	got := ""
	for deed := api.Same; deed <= api.AtLeast; deed++ {
		sign := "-"
		if Holds(kind, deed, a, b) {
			sign = "y"
		}
		got += sign
	}
	if got != want {
		t.Errorf("type %d, %v to %v: %s, want %s", kind, a, b, got, want)
	}
}

// The signs of Same, Other, Below, AtMost, Above, AtLeast.
const (
	equal   = "y--y-y"
	less    = "-yyy--"
	greater = "-y--yy"
	neither = "-y----"
)

// inOrder: each value is below all behind it.
func inOrder(t *testing.T, kind int, values ...api.Value) {
	t.Helper()
	for i, a := range values {
		for j, b := range values {
			switch {
			case i < j:
				answersAre(t, kind, a, b, less)
			case i > j:
				answersAre(t, kind, a, b, greater)
			default:
				answersAre(t, kind, a, b, equal)
			}
		}
	}
}

func ofBits(f float64) api.Value { return api.Value{N: int64(math.Float64bits(f))} }

func TestHoldsInOrder(t *testing.T) {
	inOrder(t, api.Int, api.Value{N: math.MinInt64}, api.Value{N: -1}, api.Value{}, api.Value{N: 1}, api.Value{N: 1<<53 + 1}, api.Value{N: 1<<53 + 2}, api.Value{N: math.MaxInt64})
	inOrder(t, api.Flag, api.Value{}, api.Value{N: 1})
	inOrder(t, api.Text, api.Value{}, api.Value{S: "\x00"}, api.Value{S: "Z"}, api.Value{S: "a"}, api.Value{S: "a\x00"}, api.Value{S: "ab"}, api.Value{S: "b"}, api.Value{S: "\x7f"}, api.Value{S: "é"}, api.Value{S: "\xff"})
	inOrder(t, api.Real, ofBits(math.Inf(-1)), ofBits(-math.MaxFloat64), ofBits(-1.5), ofBits(-math.SmallestNonzeroFloat64), ofBits(0), ofBits(math.SmallestNonzeroFloat64), ofBits(1), ofBits(math.MaxFloat64), ofBits(math.Inf(1)))
}

func TestHoldsOfZeros(t *testing.T) {
	minus := ofBits(math.Copysign(0, -1))
	answersAre(t, api.Real, minus, ofBits(0), equal)
	answersAre(t, api.Real, ofBits(0), minus, equal)
	answersAre(t, api.Real, minus, ofBits(1), less)
	answersAre(t, api.Real, minus, ofBits(-1), greater)
}

func TestHoldsOfNoNumber(t *testing.T) {
	for _, none := range []api.Value{ofBits(math.NaN()), {N: -1}, {N: 0x7ff0000000000001}, {N: math.MaxInt64}} {
		for _, other := range []api.Value{none, {N: -1}, ofBits(0), ofBits(1), ofBits(math.Inf(1)), ofBits(math.Inf(-1))} {
			answersAre(t, api.Real, none, other, neither)
			answersAre(t, api.Real, other, none, neither)
		}
	}
}

// extremesAre: the least and the most of two values, whichever of them comes first.
func extremesAre(t *testing.T, kind int, least, most api.Value) {
	t.Helper()
	for _, pair := range [][2]api.Value{{least, most}, {most, least}} {
		if got := Least(kind, pair[0], pair[1]); got != least {
			t.Errorf("type %d, least of %v: %v, want %v", kind, pair, got, least)
		}
		if got := Most(kind, pair[0], pair[1]); got != most {
			t.Errorf("type %d, most of %v: %v, want %v", kind, pair, got, most)
		}
	}
}

func TestLeastAndMost(t *testing.T) {
	extremesAre(t, api.Int, api.Value{N: math.MinInt64}, api.Value{N: math.MaxInt64})
	extremesAre(t, api.Int, api.Value{N: -1}, api.Value{})
	extremesAre(t, api.Int, api.Value{N: 1<<53 + 1}, api.Value{N: 1<<53 + 2})
	extremesAre(t, api.Int, api.Value{N: 7}, api.Value{N: 7})
	extremesAre(t, api.Flag, api.Value{}, api.Value{N: 1})
	extremesAre(t, api.Text, api.Value{}, api.Value{S: "\x00"})
	extremesAre(t, api.Text, api.Value{S: "Z"}, api.Value{S: "a"})
	extremesAre(t, api.Text, api.Value{S: "ab"}, api.Value{S: "b"})
	extremesAre(t, api.Text, api.Value{S: "a"}, api.Value{S: "\xff"})
	extremesAre(t, api.Real, ofBits(-2), ofBits(-1))
	extremesAre(t, api.Real, ofBits(-1), ofBits(1))
	extremesAre(t, api.Real, ofBits(math.Inf(-1)), ofBits(-math.MaxFloat64))
	extremesAre(t, api.Real, ofBits(math.MaxFloat64), ofBits(math.Inf(1)))
}

// What is no number is ahead of all others, whatever sign its bits have.
func TestLeastAndMostOfNoNumber(t *testing.T) {
	for _, none := range []api.Value{ofBits(math.NaN()), {N: -1}, {N: 0x7ff0000000000001}, {N: math.MaxInt64}} {
		for _, other := range []float64{math.Inf(-1), -1, 0, 1, math.Inf(1)} {
			extremesAre(t, api.Real, none, ofBits(other))
		}
	}
}

// Where none is ahead, the first one is both the least and the most, bit for bit.
func TestLeastAndMostOfEquals(t *testing.T) {
	zero, minus := ofBits(0), ofBits(math.Copysign(0, -1))
	quiet, loud := ofBits(math.NaN()), api.Value{N: 0x7ff0000000000001}
	for _, pair := range [][2]api.Value{{zero, minus}, {minus, zero}, {quiet, loud}, {loud, quiet}, {loud, {N: -1}}, {{N: -1}, loud}} {
		if got := Least(api.Real, pair[0], pair[1]); got != pair[0] {
			t.Errorf("least of %v: %v", pair, got)
		}
		if got := Most(api.Real, pair[0], pair[1]); got != pair[0] {
			t.Errorf("most of %v: %v", pair, got)
		}
	}
}

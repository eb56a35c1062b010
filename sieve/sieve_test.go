package sieve

import (
	"errors"
	"math"
	"math/rand"
	"slices"
	"strings"
	"testing"

	"seam/api"
)

var schema = []int{api.Int, api.Text, api.Flag, api.Real}

func number(do, column int, n int64) api.Test {
	return api.Test{Do: do, Column: column, V: api.Value{N: n}}
}

func text(do, column int, s string) api.Test {
	return api.Test{Do: do, Column: column, V: api.Value{S: s}}
}

// refused: at what New refuses the tests; ok: it does not.
func refused(t *testing.T, tests []api.Test) (at int, ok bool) {
	t.Helper()
	_, err := New(schema, tests)
	if err == nil {
		return 0, true
	}
	var found *api.Fault
	if _, bare := err.(*api.Fault); bare || !errors.As(err, &found) || found.Kind != api.BadTest {
		t.Fatalf("%v: %v does not wrap a bad test", tests, err)
	}
	return found.At, false
}

func TestNewRefuses(t *testing.T) {
	yes := number(api.Same, 0, 1)
	and, or, not := api.Test{Do: api.And}, api.Test{Do: api.Or}, api.Test{Do: api.Not}
	for _, c := range []struct {
		tests []api.Test
		at    int
	}{
		{[]api.Test{{}}, 0},
		{[]api.Test{{Do: 10}}, 0},
		{[]api.Test{{Do: -1}}, 0},
		{[]api.Test{yes, {Do: math.MaxInt}}, 1},
		{[]api.Test{yes, {Do: math.MinInt}}, 1},
		{[]api.Test{yes, {Do: 1<<32 + 9}}, 1},
		{[]api.Test{number(api.Same, 4, 0)}, 0},
		{[]api.Test{number(api.AtLeast, -1, 0)}, 0},
		{[]api.Test{number(api.Below, math.MinInt, 0)}, 0},
		{[]api.Test{number(api.Below, math.MaxInt, 0)}, 0},
		{[]api.Test{text(api.Same, 0, "x")}, 0},
		{[]api.Test{number(api.Same, 1, 1)}, 0},
		{[]api.Test{text(api.Same, 1, strings.Repeat("x", 41))}, 0},
		{[]api.Test{number(api.Same, 2, 2)}, 0},
		{[]api.Test{text(api.Same, 3, "x")}, 0},
		{[]api.Test{not}, 0},
		{[]api.Test{and}, 0},
		{[]api.Test{or}, 0},
		{[]api.Test{yes, and}, 1},
		{[]api.Test{yes, or}, 1},
		{[]api.Test{yes, yes, and, or}, 3},
		{[]api.Test{yes, yes}, 2},
		{[]api.Test{yes, yes, not}, 3},
		{[]api.Test{yes, yes, yes, and}, 4},
		{[]api.Test{yes, yes, {}, not}, 2},
		{slices.Repeat([]api.Test{yes}, 40), 40},
		{slices.Repeat([]api.Test{yes}, 41), -1},
		{slices.Repeat([]api.Test{{}}, 41), -1},
	} {
		if at, ok := refused(t, c.tests); ok || at != c.at {
			t.Errorf("New(%v): at %d, want %d (not refused: %v)", c.tests, at, c.at, ok)
		}
	}
}

func TestNewTakes(t *testing.T) {
	yes := number(api.Same, 0, 1)
	twenty := append(slices.Repeat([]api.Test{yes}, 20), slices.Repeat([]api.Test{{Do: api.And}}, 19)...)
	for _, tests := range [][]api.Test{
		nil,
		{},
		{yes},
		{text(api.Same, 1, strings.Repeat("x", 40))},
		{number(api.Same, 2, 1)},
		{number(api.Same, 3, -1)},
		{yes, {Do: api.Not, Column: -7, V: api.Value{N: 1, S: "unused"}}},
		{yes, yes, {Do: api.Or, Column: 99, V: api.Value{N: 1, S: "unused"}}},
		twenty,
		append(slices.Clone(twenty), api.Test{Do: api.Not}),
	} {
		if at, ok := refused(t, tests); !ok {
			t.Errorf("New(%v): refused at %d", tests, at)
		}
	}
}

// truth is a tree of comparisons with what it comes to for the row that it was grown for.
type truth struct {
	tests []api.Test
	says  bool
}

func leaf(says bool) truth {
	do := api.Other
	if says {
		do = api.Same
	}
	return truth{[]api.Test{number(do, 0, 5)}, says}
}

func grow(r *rand.Rand, leaves int) truth {
	var out truth
	if leaves == 1 {
		out = leaf(r.Intn(2) == 1)
	} else {
		left := 1 + r.Intn(leaves-1)
		a, b := grow(r, left), grow(r, leaves-left)
		out.tests = append(slices.Clone(a.tests), b.tests...)
		if r.Intn(2) == 0 {
			out.tests, out.says = append(out.tests, api.Test{Do: api.And}), a.says && b.says
		} else {
			out.tests, out.says = append(out.tests, api.Test{Do: api.Or}), a.says || b.says
		}
	}
	if r.Intn(3) == 0 && len(out.tests) < leaves*2 {
		out.tests, out.says = append(out.tests, api.Test{Do: api.Not}), !out.says
	}
	return out
}

func TestPassesTrees(t *testing.T) {
	r := rand.New(rand.NewSource(1))
	row := []api.Value{{N: 5}, {}, {}, {}}
	tried := 0
	for range 3000 {
		tree := grow(r, 1+r.Intn(16))
		if len(tree.tests) > api.MaxTests {
			continue
		}
		tried++
		s, err := New(schema, tree.tests)
		if err != nil {
			t.Fatalf("New(%v): %v", tree.tests, err)
		}
		if s.Passes(row) != tree.says {
			t.Fatalf("%v: want %v", tree.tests, tree.says)
		}
	}
	if tried < 1000 {
		t.Fatalf("only %d trees were tried", tried)
	}
}

func TestPassesAsksTheNamedColumn(t *testing.T) {
	row := []api.Value{{N: 5}, {S: "five"}, {N: 1}, {N: int64(math.Float64bits(5.5))}}
	for column, v := range row {
		for do, want := range map[int]bool{api.Same: true, api.Other: false, api.Below: false, api.AtMost: true, api.Above: false, api.AtLeast: true} {
			s, err := New(schema, []api.Test{{Do: do, Column: column, V: v}})
			if err != nil || s.Passes(row) != want {
				t.Errorf("deed %d of column %d: want %v (%v)", do, column, want, err)
			}
		}
	}
}

func TestNoTestsSayYes(t *testing.T) {
	s, err := New(schema, nil)
	if err != nil || !s.Passes([]api.Value{{}, {}, {}, {}}) {
		t.Errorf("no tests say no (%v)", err)
	}
}

func TestMostAnswersAtOnce(t *testing.T) {
	yes, no := number(api.Same, 0, 5), number(api.Same, 0, 6)
	tests := slices.Repeat([]api.Test{no}, 19)
	tests = append(append(tests, yes), slices.Repeat([]api.Test{{Do: api.Or}}, 19)...)
	s, err := New(schema, tests)
	if err != nil || !s.Passes([]api.Value{{N: 5}, {}, {}, {}}) {
		t.Errorf("one yes among twenty answers is lost (%v)", err)
	}
}

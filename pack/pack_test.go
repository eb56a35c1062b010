package pack

import (
	"math"
	"math/rand"
	"slices"
	"strconv"
	"strings"
	"testing"

	"seam/api"
	"seam/column"
	"seam/wire"
)

func numbers(list ...int64) []api.Value {
	var values []api.Value
	for _, n := range list {
		values = append(values, api.Value{N: n})
	}
	return values
}

func texts(list ...string) []api.Value {
	var values []api.Value
	for _, s := range list {
		values = append(values, api.Value{S: s})
	}
	return values
}

// upTo: as many numbers, one above the other.
func upTo(first int64, count int) []api.Value {
	var values []api.Value
	for i := range count {
		values = append(values, api.Value{N: first + int64(i)})
	}
	return values
}

// differing: as many texts of that length, none of which is another.
func differing(count, length int) []api.Value {
	var values []api.Value
	for i := range count {
		number := strconv.Itoa(i)
		values = append(values, api.Value{S: strings.Repeat("x", length-len(number)) + number})
	}
	return values
}

// Each way is taken where it takes the fewest bytes, and what was written comes back.
func TestWrite(t *testing.T) {
	long := strings.Repeat("\xff", 40)
	for name, c := range map[string]struct {
		kind   int
		values []api.Value
		way    byte
		bytes  int
	}{
		"one number":             {api.Int, numbers(-7), same, 9},
		"the same numbers":       {api.Int, slices.Repeat(numbers(math.MinInt64), 128), same, 9},
		"255 above":              {api.Int, numbers(-100, 155, 0), near, 9 + 3},
		"255 above, from behind": {api.Int, numbers(155, -100), near, 9 + 2},
		"256 above":              {api.Int, numbers(-100, 156, 0), whole, 1 + 3*8},
		"128 near ones":          {api.Int, upTo(1000, 128), near, 9 + 128},
		"near the least":         {api.Int, numbers(math.MinInt64, math.MinInt64+255), near, 9 + 2},
		"near the most":          {api.Int, numbers(math.MaxInt64, math.MaxInt64-255), near, 9 + 2},
		"least and most":         {api.Int, numbers(math.MinInt64, math.MaxInt64), whole, 1 + 2*8},
		"around the end":         {api.Int, numbers(math.MaxInt64, math.MinInt64), whole, 1 + 2*8},
		"128 wide ones":          {api.Int, append(upTo(0, 127), api.Value{N: 256}), whole, 1 + 128*8},
		"0 and -0":               {api.Real, numbers(0, math.MinInt64, 0), whole, 1 + 3*8},
		"no numbers":             {api.Real, numbers(0x7ff8000000000123, -1, 0x7ff0000000000001), whole, 1 + 3*8},
		"the same no number":     {api.Real, numbers(-1, -1, -1), same, 9},
		"one flag":               {api.Flag, numbers(1), same, 9},
		"flags":                  {api.Flag, numbers(1, 0, 0, 1), near, 9 + 4},
		"one text":               {api.Text, texts("abc"), same, 2 + 3},
		"the same texts":         {api.Text, slices.Repeat(texts(long), 128), same, 2 + 40},
		"empty texts":            {api.Text, slices.Repeat(texts(""), 128), same, 2},
		"texts":                  {api.Text, texts("a", "b", "", long), words, 2 + 4 + 42},
		"several empty ones":     {api.Text, texts("", "a", "", ""), words, 2 + 4 + 1},
		"repeated ones":          {api.Text, texts("b", "aa", "b", "aa", "c", "aa"), words, 2 + 6 + 2 + 3 + 1},
		"64 words":               {api.Text, slices.Repeat(differing(64, 40), 2), words, 2 + 128 + 64*41},
		"128 texts":              {api.Text, differing(128, 40), words, 2 + 128 + 128*40},
	} {
		before := slices.Clone(c.values)
		bytes := Write(c.kind, c.values)
		if len(bytes) != c.bytes || bytes[0] != c.way {
			t.Errorf("%s: %d bytes, way %d; want %d, %d", name, len(bytes), bytes[0], c.bytes, c.way)
		}
		from := wire.NewReader(bytes + "behind")
		got := Read(from, c.kind, len(c.values))
		if !slices.Equal(got, c.values) || from.Spoilt() || from.Left() != len("behind") {
			t.Errorf("%s: read %v, want %v; spoilt: %v, %d left", name, got, c.values, from.Spoilt(), from.Left())
		}
		if !slices.Equal(c.values, before) {
			t.Errorf("%s: Write changed the values", name)
		}
	}
}

// What Write says of no rows is read as no rows.
func TestWriteOfNone(t *testing.T) {
	for kind := api.Int; kind <= api.Flag; kind++ {
		from := wire.NewReader(Write(kind, nil))
		if got := Read(from, kind, 0); len(got) != 0 || from.Spoilt() || from.Left() != 0 {
			t.Errorf("type %d: %v", kind, got)
		}
	}
}

// The dictionary has each text once, in the order in which they came, but none that takes fewer bytes in its rows.
func TestDictionary(t *testing.T) {
	for want, values := range map[string][]api.Value{
		"":    texts("", "", "a", "b"),
		"b a": texts("", "b", "a", "c", "a", "b", "b", ""),
		"aa":  texts("aa", "aa", "aa"),
	} {
		if got := strings.Join(dictionary(values), " "); got != want {
			t.Errorf("dictionary(%v): %q, want %q", values, got, want)
		}
	}
}

func TestReadRefuses(t *testing.T) {
	for name, c := range map[string]struct {
		kind  int
		bytes string
	}{
		"nothing":                     {api.Int, ""},
		"no such way":                 {api.Int, "\x00\x00\x00\x00\x00\x00\x00\x00\x00"},
		"a text's way for numbers":    {api.Int, "\x04\x00\x40\x40\x40"},
		"a number's way for texts":    {api.Text, "\x02\x00\x00\x00\x00\x00\x00\x00\x00\x00\x00\x00"},
		"no such way for texts":       {api.Text, "\x05\x00"},
		"a flag of 2":                 {api.Flag, "\x01\x02\x00\x00\x00\x00\x00\x00\x00"},
		"a flag of 1 above 1":         {api.Flag, "\x02\x01\x00\x00\x00\x00\x00\x00\x00\x00\x01\x00"},
		"a place that there is not":   {api.Text, "\x04\x01\x01a\x00\x01\x00"},
		"a text of 41 bytes":          {api.Text, "\x01\x29" + strings.Repeat("x", 41)},
		"a word of 41 bytes":          {api.Text, "\x04\x01\x29" + strings.Repeat("x", 41) + "\x00\x00\x00"},
		"a text of 41 bytes in place": {api.Text, "\x04\x00\x40\x40\x69" + strings.Repeat("x", 41)},
	} {
		from := wire.NewReader(c.bytes)
		Read(from, c.kind, 3)
		if !from.Spoilt() {
			t.Errorf("%s: not refused", name)
		}
	}
}

// Whatever is cut off is missed.
func TestReadOfCutBytes(t *testing.T) {
	for _, c := range []struct {
		kind   int
		values []api.Value
	}{
		{api.Int, numbers(5, 5)}, {api.Int, numbers(5, 6)}, {api.Real, numbers(5, -6)}, {api.Flag, numbers(0, 1)},
		{api.Text, texts("ab", "ab")}, {api.Text, texts("ab", "c", "ab", "")},
	} {
		bytes := Write(c.kind, c.values)
		for end := range len(bytes) {
			from := wire.NewReader(bytes[:end])
			Read(from, c.kind, len(c.values))
			if !from.Spoilt() {
				t.Errorf("%v: the first %d bytes of %d are not refused", c.values, end, len(bytes))
			}
		}
	}
}

// Of any bytes at all: as many values as asked for, which fit, or a spoilt reader.
func TestReadOfAnyBytes(t *testing.T) {
	r := rand.New(rand.NewSource(1))
	for range 20000 {
		bytes := make([]byte, r.Intn(60))
		r.Read(bytes)
		if len(bytes) > 1 {
			bytes[0], bytes[1] = byte(r.Intn(6)), byte(r.Intn(4))
		}
		kind, count := 1+r.Intn(4), 1+r.Intn(5)
		from := wire.NewReader(string(bytes))
		values := Read(from, kind, count)
		for _, v := range values {
			if !from.Spoilt() && !column.Fits(kind, v) {
				t.Fatalf("%q: %v does not fit type %d", bytes, v, kind)
			}
		}
		if len(values) != count {
			t.Fatalf("%q: %d values, want %d", bytes, len(values), count)
		}
	}
}

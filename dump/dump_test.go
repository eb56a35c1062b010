package dump

import (
	"errors"
	"math/rand"
	"slices"
	"strings"
	"testing"

	"seam/api"
	"seam/segment"
	"seam/wire"
)

func all([]api.Value) bool { return true }

// two: an Int and a Text column, in two segments, with rows deleted.
func two() ([]int, []*segment.Segment) {
	schema := []int{api.Int, api.Text}
	var rows [][]api.Value
	for i := range int64(150) {
		rows = append(rows, []api.Value{{N: i * 7}, {S: strings.Repeat("x", int(i%5))}})
	}
	segments := segment.Cut(schema, rows)
	segments[1].Drop([]int{0, 3})
	return schema, segments
}

// refused: an error that wraps BadBytes, At 0, and nothing beside it.
func refused(t *testing.T, what, bytes string) {
	t.Helper()
	schema, segments, err := Read(bytes)
	var found *api.Fault
	if !errors.As(err, &found) || *found != (api.Fault{Kind: api.BadBytes}) {
		t.Fatalf("%s: %v", what, err)
	}
	if _, bare := err.(*api.Fault); bare {
		t.Errorf("%s: the fault itself, not an error that wraps it", what)
	}
	if schema != nil || segments != nil {
		t.Errorf("%s: something beside an error", what)
	}
}

// sealed puts around a schema and segments what makes a dump of them.
func sealed(body string) string { return sealedAs(head, int64(len(body)), body) }

func sealedAs(head string, length int64, body string) string {
	out := append(wire.AppendNumber([]byte(head), length), body...)
	return string(wire.AppendNumber(out, check(string(out))))
}

// P9.
func TestWriteAndRead(t *testing.T) {
	schema, segments := two()
	for _, some := range [][]*segment.Segment{nil, segments[:1], segments} {
		bytes := Write(schema, some)
		gotSchema, got, err := Read(bytes)
		if err != nil || !slices.Equal(gotSchema, schema) || len(got) != len(some) {
			t.Fatalf("%v, %d segments, %v", gotSchema, len(got), err)
		}
		if Write(gotSchema, got) != bytes {
			t.Error("what was read is written otherwise")
		}
		for i, part := range segment.Find(some, all) {
			if !slices.EqualFunc(segment.Find(got, all)[i].Rows, part.Rows, slices.Equal) {
				t.Errorf("segment %d: other rows", i)
			}
		}
	}
}

// P9: one bit turned.
func TestTurnedBits(t *testing.T) {
	schema, segments := two()
	for _, bytes := range []string{Write([]int{api.Flag}, nil), Write(schema, segments)} {
		for i := range 8 * len(bytes) {
			turned := []byte(bytes)
			turned[i/8] ^= 1 << (i % 8)
			refused(t, "a turned bit", string(turned))
		}
	}
}

// P9: cut off at the end.
func TestCutOff(t *testing.T) {
	schema, segments := two()
	for _, bytes := range []string{Write([]int{api.Flag}, nil), Write(schema, segments)} {
		for end := range len(bytes) {
			refused(t, "cut off", bytes[:end])
		}
	}
}

// Bytes cut off are refused for their length alone, whatever the check says of them.
func TestCutOffAndSealed(t *testing.T) {
	schema, segments := two()
	bytes := Write(schema, segments)
	for end := checkBytes; end < len(bytes)-1; end++ {
		cut := bytes[:end]
		refused(t, "cut off", string(wire.AppendNumber([]byte(cut[:end-checkBytes]), check(cut[:end-checkBytes]))))
	}
}

// P9: bytes of no dump, and such as only look like one.
func TestReadRefuses(t *testing.T) {
	number := func(n byte) string { return string([]byte{n, 0, 0, 0, 0, 0, 0, 0}) }
	rows := func(count byte) string { return string([]byte{count, 0, 1}) + number(5) }
	good := Write([]int{api.Int}, nil)
	for name, bytes := range map[string]string{
		"nothing":                  "",
		"the head alone":           head,
		"a length below 0":         string(wire.AppendNumber([]byte(head), -8)),
		"something behind":         good + "\x00",
		"two of them":              good + good,
		"another head":             sealedAs("seam\x02", 2, "\x01\x01"),
		"a length that is too low": sealedAs(head, 1, "\x01\x01"),
		"a length that is too big": sealedAs(head, 3, "\x01\x01"),
		"another check":            good[:len(good)-1] + "?",
		"zeros":                    strings.Repeat("\x00", 100),
		"no schema":                sealed(""),
		"no columns":               sealed("\x00"),
		"a column that is missing": sealed("\x02\x01"),
		"a column of no type":      sealed("\x01\x05"),
		"seven columns":            sealed("\x07\x01\x01\x01\x01\x01\x01\x01"),
		"a segment cut off":        sealed("\x01\x01" + rows(5)[:7]),
		"a segment without rows":   sealed("\x01\x01" + rows(0)),
		"all rows deleted":         sealed("\x01\x01\x02\x01" + number(3) + number(0) + "\x01" + number(5)),
		"129 rows in a segment":    sealed("\x01\x01" + rows(129)),
		"1001 rows":                sealed("\x01\x01" + strings.Repeat(rows(77), 13)),
		"very many rows":           sealed("\x01\x01" + strings.Repeat(rows(128), 100000)),
	} {
		refused(t, name, bytes)
	}
	if _, segments, err := Read(sealed("\x01\x01" + strings.Repeat(rows(125), 8))); err != nil || len(segments) != 8 {
		t.Errorf("1000 rows: %v", err)
	}
}

// P9: of any other bytes, a table or BadBytes: what is read can be written and read again.
func TestReadOfAnyBytes(t *testing.T) {
	r := rand.New(rand.NewSource(1))
	schema, segments := two()
	whole := Write(schema, segments)
	body := whole[len(head)+8 : len(whole)-checkBytes]
	tables := 0
	for range 3000 {
		changed := []byte(body)
		for range 1 + r.Intn(3) {
			changed[r.Intn(len(changed))] = byte(r.Intn(256))
		}
		if r.Intn(4) == 0 {
			changed = changed[:r.Intn(len(changed))]
		}
		bytes := sealed(string(changed))
		gotSchema, got, err := Read(bytes)
		if err != nil {
			refused(t, "changed bytes", bytes)
			continue
		}
		tables++
		again, got2, err := Read(Write(gotSchema, got))
		if err != nil || Write(again, got2) != Write(gotSchema, got) {
			t.Fatalf("%q: written and read again: %v", bytes, err)
		}
		for i, part := range segment.Find(got, all) {
			if !slices.EqualFunc(part.Rows, segment.Find(got2, all)[i].Rows, slices.Equal) {
				t.Fatalf("%q: written and read again: other rows", bytes)
			}
		}
	}
	if tables == 0 {
		t.Error("no changed bytes were a table: nothing was tried")
	}
}

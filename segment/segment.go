// Package segment keeps rows that are fresh no more: each column apart, and small.
package segment

import (
	"math/bits"
	"slices"

	"seam/api"
	"seam/pack"
	"seam/wire"
)

// Segment is 1 to 128 rows. What was deleted of them stays where it is, with a mark, until the segment is written anew.
type Segment struct {
	schema  []int
	count   int
	columns []string
	gone    marks
}

// marks has a bit for each row.
type marks [api.MaxSegment / 64]uint64

func (m *marks) set(row int) { m[row/64] |= 1 << (row % 64) }

func (m *marks) has(row int) bool { return m[row/64]>>(row%64)&1 == 1 }

// Cut puts rows into segments, each but the last one full. The schema is kept, and not written into.
func Cut(schema []int, rows [][]api.Value) []*Segment {
	var segments []*Segment
	for some := range slices.Chunk(rows, api.MaxSegment) {
		segments = append(segments, fill(schema, some))
	}
	return segments
}

func fill(schema []int, rows [][]api.Value) *Segment {
	made := &Segment{schema: schema, count: len(rows)}
	values := make([]api.Value, len(rows))
	for at, kind := range schema {
		for i, row := range rows {
			values[i] = row[at]
		}
		made.columns = append(made.columns, pack.Write(kind, values))
	}
	return made
}

// rows tells all rows, those that were deleted too.
func (s *Segment) rows() [][]api.Value {
	rows := make([][]api.Value, s.count)
	for i := range rows {
		rows[i] = make([]api.Value, len(s.schema))
	}
	for at, kind := range s.schema {
		for i, v := range pack.Read(wire.NewReader(s.columns[at]), kind, s.count) {
			rows[i][at] = v
		}
	}
	return rows
}

// Live tells how many rows were not deleted.
func (s *Segment) Live() int {
	live := s.count
	for _, word := range s.gone {
		live -= bits.OnesCount64(word)
	}
	return live
}

// Drop deletes the rows at these places.
func (s *Segment) Drop(places []int) {
	for _, place := range places {
		s.gone.set(place)
	}
}

// Append puts the segment's bytes behind those that there are.
func (s *Segment) Append(out []byte) []byte {
	out = append(out, byte(s.count))
	out = s.gone.append(out)
	for _, column := range s.columns {
		out = append(out, column...)
	}
	return out
}

// append writes marks only if there are some.
func (m *marks) append(out []byte) []byte {
	if *m == (marks{}) {
		return append(out, 0)
	}
	out = append(out, 1)
	for _, word := range m {
		out = wire.AppendNumber(out, int64(word))
	}
	return out
}

// Read makes a segment of what Append wrote. If the reader is spoilt, it has no rows.
// It keeps nothing of the bytes: the columns are written anew, so that whatever is kept was written here.
func Read(from *wire.Reader, schema []int) *Segment {
	count := from.Byte()
	if count < 1 || count > api.MaxSegment {
		from.Spoil()
		return &Segment{}
	}
	gone := readMarks(from, count)
	made := &Segment{schema: schema, count: count, gone: gone}
	for _, kind := range schema {
		made.columns = append(made.columns, pack.Write(kind, pack.Read(from, kind, count)))
	}
	if from.Spoilt() {
		return &Segment{}
	}
	return made
}

// readMarks spoils the reader if there are marks of rows that there are not.
func readMarks(from *wire.Reader, count int) marks {
	var gone marks
	switch from.Byte() {
	case 0:
	case 1:
		for i := range gone {
			gone[i] = uint64(from.Number())
		}
	default:
		from.Spoil()
	}
	for row := count; row < api.MaxSegment; row++ {
		if gone.has(row) {
			from.Spoil()
		}
	}
	return gone
}

// Package dump tells a table's segments as bytes, and reads them again.
package dump

import (
	"seam/api"
	"seam/column"
	"seam/fault"
	"seam/segment"
	"seam/wire"
)

// head is what each dump begins with.
const head = "seam\x01"

// checkBytes: how many bytes the number has that check makes.
const checkBytes = 8

// Write tells the bytes of a table: behind the head, how many bytes the schema and the segments take; these; and at the end a number by which it shows if something was changed.
func Write(schema []int, segments []*segment.Segment) string {
	body := []byte{byte(len(schema))}
	for _, kind := range schema {
		body = append(body, byte(kind))
	}
	for _, s := range segments {
		body = s.Append(body)
	}
	out := wire.AppendNumber([]byte(head), int64(len(body)))
	out = append(out, body...)
	return string(wire.AppendNumber(out, check(string(out))))
}

// check makes a number of bytes. Where one byte is another one, the number is too: no step, neither the exclusive or nor an odd factor, makes the same of two different numbers.
func check(bytes string) int64 {
	sum := uint64(14695981039346656037)
	for _, b := range []byte(bytes) {
		sum = (sum ^ uint64(b)) * 1099511628211
	}
	return int64(sum)
}

// Read tells the schema and the segments of bytes that Write gave, and refuses what may not be in them.
func Read(bytes string) ([]int, []*segment.Segment, error) {
	body, whole := open(bytes)
	if !whole {
		return nil, nil, fault.Refuse("bytes that were changed, or are of no table", api.BadBytes, 0)
	}
	from := wire.NewReader(body)
	schema := readSchema(from)
	segments := readSegments(from, schema)
	if from.Spoilt() {
		return nil, nil, fault.Refuse("bytes that say what may not be", api.BadBytes, 0)
	}
	return schema, segments, nil
}

// open takes off what is around the schema and the segments, if that is as it must be. Bytes that were cut off at the end are not as many as they say.
func open(bytes string) (string, bool) {
	from := wire.NewReader(bytes)
	if from.Take(len(head)) != head {
		return "", false
	}
	told := from.Number()
	left := from.Left() - checkBytes
	if left < 0 || told != int64(left) {
		return "", false
	}
	body := from.Take(left)
	return body, from.Number() == check(bytes[:len(bytes)-checkBytes])
}

func readSchema(from *wire.Reader) []int {
	schema := make([]int, from.Byte())
	for i := range schema {
		schema[i] = from.Byte()
	}
	if column.CheckSchema(schema) != nil {
		from.Spoil()
	}
	return schema
}

// readSegments spoils the reader if there are more rows than a table has, or a segment without any.
func readSegments(from *wire.Reader, schema []int) []*segment.Segment {
	var segments []*segment.Segment
	rows := 0
	for from.Left() > 0 {
		next := segment.Read(from, schema)
		rows += next.Live()
		if next.Live() == 0 || rows > api.MaxRows {
			from.Spoil()
		}
		segments = append(segments, next)
	}
	return segments
}

// Package pack writes the values of one column of a segment in few bytes, and reads them again.
package pack

import (
	"math"

	"seam/api"
	"seam/column"
	"seam/wire"
)

// The ways in which a column is written, told by its first byte.
const (
	same  = 1 // one value, which all rows have
	near  = 2 // the least number, and for each row a byte: how far its number is above
	whole = 3 // all numbers
	words = 4 // a dictionary, and for each row a byte: its text's place there, or how long the text is that follows
)

// inPlace is ahead of the length of a text that follows. Below it are the places of the dictionary: a text that stands there is that of two rows at least.
const inPlace = api.MaxSegment / 2

// Write tells a segment's values, which fit that type. Of the ways that can be taken, the one that is tried first takes the fewest bytes.
func Write(kind int, values []api.Value) string {
	if kind == api.Text {
		return string(writeTexts(values))
	}
	return string(writeNumbers(values))
}

// writeNumbers writes Real values by their bits, as it does other numbers: so they come back bit for bit.
func writeNumbers(values []api.Value) []byte {
	least, most := int64(math.MaxInt64), int64(math.MinInt64)
	for _, v := range values {
		least, most = min(least, v.N), max(most, v.N)
	}
	// Without a sign the difference is right where it would not be an int64.
	switch spread := uint64(most) - uint64(least); {
	case spread == 0:
		return wire.AppendNumber([]byte{same}, least)
	case spread <= math.MaxUint8:
		return writeNear(values, least)
	}
	out := []byte{whole}
	for _, v := range values {
		out = wire.AppendNumber(out, v.N)
	}
	return out
}

func writeNear(values []api.Value, least int64) []byte {
	out := wire.AppendNumber([]byte{near}, least)
	for _, v := range values {
		out = append(out, byte(v.N-least))
	}
	return out
}

func writeTexts(values []api.Value) []byte {
	if allSame(values) {
		return wire.AppendText([]byte{same}, values[0].S)
	}
	texts := dictionary(values)
	places := map[string]int{}
	out := []byte{words, byte(len(texts))}
	for i, s := range texts {
		places[s] = i
		out = wire.AppendText(out, s)
	}
	for _, v := range values {
		if place, is := places[v.S]; is {
			out = append(out, byte(place))
			continue
		}
		out = append(append(out, byte(inPlace+len(v.S))), v.S...)
	}
	return out
}

func allSame(values []api.Value) bool {
	for _, v := range values {
		if v != values[0] {
			return false
		}
	}
	return len(values) > 0
}

// dictionary lists the texts that take no more bytes there than in each of their rows: those of several rows, but the empty one.
func dictionary(values []api.Value) []string {
	rows := map[string]int{}
	for _, v := range values {
		rows[v.S]++
	}
	var texts []string
	for _, v := range values {
		if rows[v.S] > 1 && v.S != "" {
			texts = append(texts, v.S)
		}
		delete(rows, v.S) // so that its next row does not list it again
	}
	return texts
}

// Read gives as many values as are asked for, each of which fits that type; or it spoils the reader.
func Read(from *wire.Reader, kind, count int) []api.Value {
	values := make([]api.Value, count)
	if kind == api.Text {
		readTexts(from, values)
	} else {
		readNumbers(from, values)
	}
	for _, v := range values {
		if !column.Fits(kind, v) {
			from.Spoil()
		}
	}
	return values
}

func readNumbers(from *wire.Reader, values []api.Value) {
	switch from.Byte() {
	case same:
		all := from.Number()
		for i := range values {
			values[i].N = all
		}
	case near:
		least := from.Number()
		for i := range values {
			values[i].N = least + int64(from.Byte())
		}
	case whole:
		for i := range values {
			values[i].N = from.Number()
		}
	default:
		from.Spoil()
	}
}

func readTexts(from *wire.Reader, values []api.Value) {
	switch from.Byte() {
	case same:
		all := from.Text()
		for i := range values {
			values[i].S = all
		}
	case words:
		texts := make([]string, from.Byte())
		for i := range texts {
			texts[i] = from.Text()
		}
		for i := range values {
			values[i].S = readWord(from, texts)
		}
	default:
		from.Spoil()
	}
}

func readWord(from *wire.Reader, texts []string) string {
	word := from.Byte()
	switch {
	case word >= inPlace:
		return from.Take(word - inPlace)
	case word < len(texts):
		return texts[word]
	}
	from.Spoil()
	return ""
}

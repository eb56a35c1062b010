package segment

import "seam/api"

// Part is what was found in one segment: rows, and which of its rows they are.
type Part struct {
	at     int
	Rows   [][]api.Value
	Places []int
}

// Find tells of each segment, in their order, the rows that are wanted and were not deleted. wanted is asked by two goroutines at the same time; both have ended when Find answers.
func Find(segments []*Segment, wanted func(row []api.Value) bool) []Part {
	even, odd := make(chan Part), make(chan Part)
	go send(even, segments, 0, wanted)
	go send(odd, segments, 1, wanted)
	return gather(len(segments), even, odd)
}

// send finds what is wanted in every other segment, from first on.
func send(to chan<- Part, segments []*Segment, first int, wanted func(row []api.Value) bool) {
	defer close(to)
	for at := first; at < len(segments); at += 2 {
		to <- segments[at].find(at, wanted)
	}
}

// gather waits until both channels are closed, and puts each part in its place, whichever came first.
func gather(count int, even, odd <-chan Part) []Part {
	parts := make([]Part, count)
	for even != nil || odd != nil {
		select {
		case part, more := <-even:
			if !more {
				even = nil // a closed channel would be ready ever after
				continue
			}
			parts[part.at] = part
		case part, more := <-odd:
			if !more {
				odd = nil
				continue
			}
			parts[part.at] = part
		}
	}
	return parts
}

func (s *Segment) find(at int, wanted func(row []api.Value) bool) Part {
	found := Part{at: at}
	for i, row := range s.rows() {
		if !s.gone.has(i) && wanted(row) {
			found.Rows = append(found.Rows, row)
			found.Places = append(found.Places, i)
		}
	}
	return found
}

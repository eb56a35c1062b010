// Package wire puts numbers and texts into bytes, and takes them out again.
package wire

// numberBytes: how many bytes a number has.
const numberBytes = 8

// AppendNumber puts a number behind the bytes that there are.
func AppendNumber(out []byte, n int64) []byte {
	for range numberBytes {
		out = append(out, byte(n))
		n >>= 8
	}
	return out
}

// AppendText puts a text of at most 255 bytes behind the bytes that there are, its length ahead of it.
func AppendText(out []byte, s string) []byte {
	return append(append(out, byte(len(s))), s...)
}

// Reader takes bytes apart that may be of no table. Once there are too few of them, or what they say may not be, it is spoilt: nothing is left, and all that it gives is 0 or empty. So whoever reads need ask only once, at the end.
type Reader struct {
	left   string
	spoilt bool
}

// NewReader reads bytes from their first one on.
func NewReader(bytes string) *Reader { return &Reader{left: bytes} }

// Take gives the next bytes, that many.
func (r *Reader) Take(many int) string {
	if many < 0 || many > len(r.left) {
		r.Spoil()
		return ""
	}
	taken := r.left[:many]
	r.left = r.left[many:]
	return taken
}

// Byte gives the next byte.
func (r *Reader) Byte() int {
	if taken := r.Take(1); taken != "" {
		return int(taken[0])
	}
	return 0
}

// Number gives what AppendNumber put.
func (r *Reader) Number() int64 {
	var n int64
	for i, b := range []byte(r.Take(numberBytes)) {
		n |= int64(b) << (8 * i)
	}
	return n
}

// Text gives what AppendText put.
func (r *Reader) Text() string { return r.Take(r.Byte()) }

// Left tells how many bytes were not taken yet.
func (r *Reader) Left() int { return len(r.left) }

// Spoil says that what was read may not be.
func (r *Reader) Spoil() { r.left, r.spoilt = "", true }

// Spoilt tells whether something that was read may not be.
func (r *Reader) Spoilt() bool { return r.spoilt }

package wire

import (
	"math"
	"strings"
	"testing"
)

func TestWhatWasPutComesOut(t *testing.T) {
	numbers := []int64{0, 1, -1, 255, 256, 1 << 40, math.MaxInt64, math.MinInt64}
	texts := []string{"", "a", "\x00\xff", strings.Repeat("x", 255)}
	var out []byte
	for _, n := range numbers {
		out = AppendNumber(out, n)
	}
	for _, s := range texts {
		out = AppendText(out, s)
	}
	r := NewReader(string(append(out, 200)))
	for _, n := range numbers {
		if got := r.Number(); got != n {
			t.Errorf("Number: %d, want %d", got, n)
		}
	}
	for _, s := range texts {
		if got := r.Text(); got != s {
			t.Errorf("Text: %q, want %q", got, s)
		}
	}
	if r.Left() != 1 || r.Byte() != 200 || r.Left() != 0 || r.Spoilt() {
		t.Errorf("%d bytes left, spoilt: %v", r.Left(), r.Spoilt())
	}
}

func TestBytesGoBehindThose(t *testing.T) {
	if got := string(AppendText(AppendNumber([]byte("ab"), 0x0102), "cd")); got != "ab\x02\x01\x00\x00\x00\x00\x00\x00\x02cd" {
		t.Errorf("%q", got)
	}
}

func TestTooFewBytesSpoil(t *testing.T) {
	for name, read := range map[string]func(r *Reader) bool{
		"Byte":   func(r *Reader) bool { r.Take(3); return r.Byte() == 0 },
		"Number": func(r *Reader) bool { return r.Number() == 0 },
		"Text":   func(r *Reader) bool { return r.Text() == "" },
		"Take":   func(r *Reader) bool { return r.Take(4) == "" },
		"below":  func(r *Reader) bool { return r.Take(-1) == "" },
	} {
		r := NewReader("\x03ab")
		if !read(r) || !r.Spoilt() || r.Left() != 0 {
			t.Errorf("%s: spoilt: %v, %d left", name, r.Spoilt(), r.Left())
		}
	}
}

func TestASpoiltReaderGivesNothing(t *testing.T) {
	r := NewReader("abcdefghijkl")
	r.Spoil()
	if r.Byte() != 0 || r.Number() != 0 || r.Text() != "" || r.Take(0) != "" || r.Left() != 0 || !r.Spoilt() {
		t.Error("it gives something")
	}
}

package wire_test

import (
	"encoding/binary"
	"math"
	"slices"
	"testing"

	"routescope/api"
	"routescope/wire"
)

// widths holds numbers of bytes that a number cannot have.
var widths = []int{math.MinInt, -8, -7, -1, 0, 8, 9, 16, 63, 64, 65, math.MaxInt}

// limit is the least number that is too great for so many bytes.
func limit(width int) int { return 1 << (8 * width) }

// encoded returns the last width bytes of a number of eight bytes.
func encoded(n, width int) []byte {
	return binary.BigEndian.AppendUint64(nil, uint64(n))[8-width:]
}

// numbers returns numbers of at most width bytes: the edges, and some whose bytes differ.
func numbers(width int) []int {
	top := limit(width) - 1
	list := []int{0, 1, 2, top, top - 1, top / 2, top/2 + 1, 0x01020304050607 & top, 0xFEDCBA98765432 & top, 0x80FF7F00010080 & top}
	for bit := range 8 * width {
		list = append(list, 1<<bit, 1<<bit-1)
	}
	return list
}

// heads returns bytes to which numbers are appended.
func heads() [][]byte {
	return [][]byte{nil, {}, {0}, {9}, {255, 0}, {1, 2, 3}, slices.Repeat([]byte{0xA5}, 300)}
}

// P4.1

func TestPut(t *testing.T) {
	for width := 1; width <= 7; width++ {
		for _, n := range numbers(width) {
			for _, b := range heads() {
				got, e := wire.Put(b, n, width)
				if e != api.OK || !slices.Equal(got, slices.Concat(b, encoded(n, width))) {
					t.Errorf("Put(%v, %d, %d) is %v, %d", b, n, width, got, e)
				}
			}
		}
	}
	if got, e := wire.Put([]byte{9}, 0x0102, 4); e != api.OK || !slices.Equal(got, []byte{9, 0, 0, 1, 2}) {
		t.Errorf("258 in four bytes is %v, %d", got, e)
	}
}

// A width that is not permitted is refused whatever the number is, and so is a number that needs another byte.
func TestPutRange(t *testing.T) {
	refused := func(b []byte, n, width int) {
		if got, e := wire.Put(b, n, width); e != api.ErrRange || len(got) != 0 {
			t.Errorf("Put(%v, %d, %d) is %v, %d", b, n, width, got, e)
		}
	}
	for _, b := range heads() {
		for _, width := range widths {
			for _, n := range []int{math.MinInt, -1, 0, 1, 255, 1 << 56, math.MaxInt} {
				refused(b, n, width)
			}
		}
		for width := 1; width <= 7; width++ {
			for _, n := range []int{math.MinInt, math.MinInt + 1, -limit(width), -256, -255, -1, limit(width), limit(width) + 1, 1 << 56, 1<<62 + 1, math.MaxInt} {
				refused(b, n, width)
			}
		}
	}
}

// The bytes, with their spare capacity, stay as they are, also when the result is overwritten; and results share nothing with each other.
func TestPutMemory(t *testing.T) {
	all := []byte{1, 2, 3, 4, 5, 6, 7, 8, 9, 10, 11, 12}
	for length := range len(all) {
		before := slices.Clone(all)
		b := all[:length]
		first, _ := wire.Put(b, 0xA1A2A3, 3)
		second, _ := wire.Put(b, 0xB1B2B3, 3)
		wire.Put(b, -1, 3)
		wire.Put(b, 0, 8)
		kept := slices.Clone(second)
		for i := range first[:cap(first)] {
			first[:cap(first)][i] = 0xEE
		}
		if !slices.Equal(all, before) || !slices.Equal(second, kept) || !slices.Equal(kept, slices.Concat(b, []byte{0xB1, 0xB2, 0xB3})) {
			t.Errorf("with %d bytes: %v, %v", length, all, second)
		}
	}
}

func TestGet(t *testing.T) {
	b := []byte{0x80, 0x00, 0xFF, 0x7F, 0x01, 0x02, 0x03, 0x04, 0x05, 0x06, 0x07, 0xFE, 0xDC, 0xFF, 0xFF, 0xFF, 0xFF, 0xFF, 0xFF, 0xFF, 0, 0, 0, 0, 0, 0, 0}
	for width := 1; width <= 7; width++ {
		for at := 0; at+width <= len(b); at++ {
			var eight [8]byte
			copy(eight[8-width:], b[at:])
			if n, e := wire.Get(b, at, width); e != api.OK || n != int(binary.BigEndian.Uint64(eight[:])) {
				t.Errorf("Get(%d, %d) is %d, %d", at, width, n, e)
			}
		}
	}
}

// Get undoes Put, at the end of what was there and among what is appended later.
func TestGetPut(t *testing.T) {
	for width := 1; width <= 7; width++ {
		for _, n := range numbers(width) {
			for _, b := range heads() {
				all, _ := wire.Put(b, n, width)
				more, _ := wire.Put(all, 0x5A5B5C5D5E5F50, 7)
				for _, bytes := range [][]byte{all, more} {
					if got, e := wire.Get(bytes, len(b), width); got != n || e != api.OK {
						t.Errorf("%d in %d bytes after %d comes back as %d, %d", n, width, len(b), got, e)
					}
				}
			}
		}
	}
}

func TestGetShort(t *testing.T) {
	spare := []byte{1, 2, 3, 4, 5, 6, 7, 8, 9, 10, 11, 12}
	for length := range 9 {
		b := spare[:length] // what lies behind its end does not count
		for width := 1; width <= 7; width++ {
			for _, at := range []int{length - width + 1, length - 1, length, length + 1, length + 7, 1 << 40, math.MaxInt - 7, math.MaxInt - width, math.MaxInt - width + 1, math.MaxInt} {
				if at < 0 || at+width >= 0 && at+width <= length {
					continue
				}
				if n, e := wire.Get(b, at, width); n != 0 || e != api.ErrShort {
					t.Errorf("Get(%v, %d, %d) is %d, %d", b, at, width, n, e)
				}
			}
		}
	}
	if n, e := wire.Get(nil, 0, 1); n != 0 || e != api.ErrShort {
		t.Errorf("no bytes hold %d, %d", n, e)
	}
}

// Widths and indices out of range are refused first, also where there are no bytes.
func TestGetRange(t *testing.T) {
	for _, b := range heads() {
		for _, at := range []int{math.MinInt, math.MinInt + 1, -8, -1, 0, 1, 299, 1000, math.MaxInt} {
			for _, width := range widths {
				if n, e := wire.Get(b, at, width); n != 0 || e != api.ErrRange {
					t.Errorf("Get(%v, %d, %d) is %d, %d", b, at, width, n, e)
				}
			}
			for width := 1; width <= 7 && at < 0; width++ {
				if n, e := wire.Get(b, at, width); n != 0 || e != api.ErrRange {
					t.Errorf("Get(%v, %d, %d) is %d, %d", b, at, width, n, e)
				}
			}
		}
	}
}

func TestEqual(t *testing.T) {
	spare := []byte{1, 2, 3}
	list := [][]byte{
		{}, {0}, {0, 0}, {1}, {2}, {1, 0}, {0, 1}, {1, 2}, {2, 1}, {1, 2, 3}, {1, 2, 4}, {0, 2, 3}, {1, 0, 3},
		{255}, {254}, {128}, {0xC0, 0x80}, {0xEF, 0xBF, 0xBD}, {0xFF, 0xFE}, {0xFE, 0xFF}, // also what is no text
		slices.Repeat([]byte{7}, 1500), slices.Repeat([]byte{7}, 1501), append(slices.Repeat([]byte{7}, 1499), 8),
	}
	for i, a := range list {
		for j, b := range list {
			if got := wire.Equal(a, slices.Clone(b)); got != (i == j) {
				t.Errorf("%v and %v: %t", a, b, got)
			}
		}
	}
	if !wire.Equal(nil, nil) || !wire.Equal(nil, []byte{}) || !wire.Equal([]byte{}, nil) || wire.Equal(nil, []byte{0}) || wire.Equal([]byte{0}, nil) {
		t.Error("no bytes are equal to no bytes alone")
	}
	if !wire.Equal(spare[:2], []byte{1, 2}) || wire.Equal(spare[:1], spare[:2]) || !slices.Equal(spare, []byte{1, 2, 3}) {
		t.Error("spare capacity does not count")
	}
}

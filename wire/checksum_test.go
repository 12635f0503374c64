package wire_test

import (
	"math"
	"slices"
	"testing"

	"routescope/wire"
)

// outside holds numbers that are not from 0 to 65535.
var outside = []int{math.MinInt, math.MinInt + 1, -1 << 32, -65536, -65535, -1, 65536, 65537, 131071, 1 << 32, 1<<32 + 1, math.MaxInt - 65535, math.MaxInt}

// inside holds numbers from 0 to 65535.
var inside = []int{0, 1, 2, 3, 7, 127, 128, 254, 255, 256, 257, 511, 0x00FF, 0x0100, 0x1234, 0x451C, 0x7FFE, 0x7FFF, 0x8000, 0x8001, 0xBAE3, 0xDDF2, 0xFEFF, 0xFF00, 0xFF01, 0xFFFC, 65533, 65534, 65535}

// total is the one's complement sum of numbers, said without folding: folding keeps a sum as it is modulo 65535, and leaves 0 only if there was nothing.
func total(numbers ...int) int {
	sum := 0
	for _, n := range numbers {
		sum += n
	}
	if sum == 0 {
		return 0
	}
	return (sum-1)%65535 + 1
}

// pairs returns the numbers in bytes.
func pairs(b []byte) []int {
	if len(b)%2 == 1 {
		b = append(slices.Clone(b), 0)
	}
	var list []int
	for pair := range slices.Chunk(b, 2) {
		list = append(list, int(pair[0])*256+int(pair[1]))
	}
	return list
}

// mixed returns bytes that follow from a seed; many of them are 0 or 255, with which sums run over.
func mixed(length int, seed uint64) []byte {
	b := make([]byte, length)
	for i := range b {
		seed = seed*6364136223846793005 + 1442695040888963407
		switch seed >> 61 {
		case 0, 1:
			b[i] = 0
		case 2, 3, 4:
			b[i] = 255
		default:
			b[i] = byte(seed >> 40)
		}
	}
	return b
}

// samples returns bytes of many lengths.
func samples() [][]byte {
	list := [][]byte{
		nil, {}, {0}, {1}, {255}, {0, 0}, {0, 1}, {1, 0}, {0, 255}, {255, 0}, {255, 254}, {255, 255}, {0, 0, 0}, {0, 0, 1}, {255, 255, 1}, {255, 255, 0, 1}, {255, 255, 255}, {255, 254, 0, 1}, {255, 254, 0, 2},
		{128, 0, 128, 0}, {128, 0, 127, 255}, {128, 0, 127, 255, 0, 1}, slices.Repeat([]byte{0}, 1500), slices.Repeat([]byte{255}, 1500), slices.Repeat([]byte{255}, 1499), slices.Repeat([]byte{128, 0}, 65537),
		slices.Repeat([]byte{255}, 1<<20), slices.Repeat([]byte{255}, 1<<20+1), slices.Repeat([]byte{255, 254}, 1<<17+3),
	}
	for length := range 70 {
		list = append(list, mixed(length, uint64(length)*977+5))
	}
	return append(list, mixed(1499, 3), mixed(1500, 4), mixed(1<<17+1, 8))
}

// P4.2

func TestAdd(t *testing.T) {
	for _, a := range inside {
		for b := range 65536 {
			if got := wire.Add(a, b); got != total(a, b) {
				t.Fatalf("Add(%d, %d) is %d", a, b, got)
			}
			if got := wire.Add(b, a); got != total(a, b) {
				t.Fatalf("Add(%d, %d) is %d", b, a, got)
			}
		}
	}
	if got := wire.Add(65535, 1); got != 1 {
		t.Errorf("Add(65535, 1) is %d", got)
	}
}

func TestAddRange(t *testing.T) {
	for _, a := range outside {
		for _, b := range slices.Concat(inside, outside) {
			if got := wire.Add(a, b); got != 0 {
				t.Errorf("Add(%d, %d) is %d", a, b, got)
			}
			if got := wire.Add(b, a); got != 0 {
				t.Errorf("Add(%d, %d) is %d", b, a, got)
			}
		}
	}
}

func TestSum(t *testing.T) {
	for _, b := range samples() {
		want := total(pairs(b)...)
		before := slices.Clone(b)
		if sum, checksum := wire.Sum(b), wire.Checksum(b); sum != want || checksum != 65535-want {
			t.Errorf("%d bytes %.20v: %d, %d instead of %d", len(b), b, sum, checksum, want)
		}
		if !slices.Equal(b, before) {
			t.Errorf("%d bytes %.20v are modified", len(before), before)
		}
	}
}

// Examples that others have computed by hand.
func TestSumExamples(t *testing.T) {
	for _, x := range []struct {
		b             []byte
		sum, checksum int
	}{
		{nil, 0, 65535},
		{[]byte{0, 0, 0}, 0, 65535},
		{[]byte{1}, 0x0100, 0xFEFF},
		{[]byte{0, 0, 1}, 0x0100, 0xFEFF},
		{[]byte{255, 255, 255, 255}, 65535, 0},
		{[]byte{0x45, 0x00, 0x00, 0x1C}, 0x451C, 0xBAE3},
		{[]byte{0x00, 0x01, 0xF2, 0x03, 0xF4, 0xF5, 0xF6, 0xF7}, 0xDDF2, 0x220D},
		{[]byte{0x45, 0, 0, 0x73, 0, 0, 0x40, 0, 0x40, 0x11, 0, 0, 0xC0, 0xA8, 0, 1, 0xC0, 0xA8, 0, 0xC7}, 0x479E, 0xB861},
	} {
		if sum, checksum := wire.Sum(x.b), wire.Checksum(x.b); sum != x.sum || checksum != x.checksum {
			t.Errorf("%v: %x, %x", x.b, sum, checksum)
		}
	}
}

// What lies behind the end of bytes does not count, also not with a last single byte.
func TestSumSpare(t *testing.T) {
	all := []byte{1, 2, 3, 4, 5, 6}
	for length := range all {
		if got := wire.Sum(all[:length]); got != total(pairs(slices.Clone(all[:length]))...) {
			t.Errorf("the first %d bytes: %d", length, got)
		}
	}
	if !slices.Equal(all, []byte{1, 2, 3, 4, 5, 6}) {
		t.Errorf("spare capacity is modified: %v", all)
	}
}

// The order of pairs does not matter, but that of the bytes of a pair does.
func TestSumOrder(t *testing.T) {
	for _, b := range samples() {
		b = b[:len(b)/2*2]
		var turned []byte
		for i := len(b) - 2; i >= 0; i -= 2 {
			turned = append(turned, b[i], b[i+1])
		}
		if wire.Sum(turned) != wire.Sum(b) {
			t.Errorf("%d bytes %.20v: %d, and %d from the end on", len(b), b, wire.Sum(b), wire.Sum(turned))
		}
	}
	if wire.Sum([]byte{1, 2}) == wire.Sum([]byte{2, 1}) {
		t.Error("the bytes of a pair are exchanged")
	}
}

// With their checksum behind them, bytes of even length have the sum 65535.
func TestSumAll(t *testing.T) {
	for _, b := range samples() {
		if len(b)%2 == 1 || wire.Sum(b) == 0 {
			continue
		}
		all, _ := wire.Put(b, wire.Checksum(b), 2)
		if got := wire.Sum(all); got != 65535 {
			t.Errorf("%d bytes %.20v with their checksum: %d", len(b), b, got)
		}
	}
}

// P4.3

func TestUpdate(t *testing.T) {
	for _, sum := range inside {
		for _, old := range inside {
			for _, now := range inside {
				if got := wire.Update(sum, old, now); got != 65535-total(65535-sum, 65535-old, now) {
					t.Errorf("Update(%d, %d, %d) is %d", sum, old, now, got)
				}
			}
		}
	}
	for _, x := range [][4]int{{0xBAE3, 0x001C, 0x001D, 0xBAE2}, {0xBAE3, 0x001C, 0x001C, 0xBAE3}, {0xBAE3, 0x4500, 0x4501, 0xBAE2}, {0xDD2F, 0x5555, 0x3285, 0}} {
		if got := wire.Update(x[0], x[1], x[2]); got != x[3] {
			t.Errorf("%x with %x for %x: %x", x[0], x[2], x[1], got)
		}
	}
}

// Update agrees with Checksum, if not all numbers are 0 after the replacement.
func TestUpdateChecksum(t *testing.T) {
	for _, b := range samples() {
		if len(b) > 64 {
			continue
		}
		b = slices.Clone(b[:len(b)/2*2])
		for i := 0; i < len(b); i += 2 {
			high, low, sum := b[i], b[i+1], wire.Checksum(b)
			for _, now := range inside {
				b[i], b[i+1] = byte(now>>8), byte(now)
				if got := wire.Update(sum, int(high)*256+int(low), now); wire.Sum(b) != 0 && got != wire.Checksum(b) {
					t.Errorf("%v: %d instead of %d", b, got, wire.Checksum(b))
				}
			}
			b[i], b[i+1] = high, low
		}
	}
}

// Where only zeros are left, the checksum by this rule is 0, other than that of the bytes.
func TestUpdateZeros(t *testing.T) {
	for old := 1; old < 65536; old++ {
		if got := wire.Update(65535-old, old, 0); got != 0 {
			t.Fatalf("Update(%d, %d, 0) is %d", 65535-old, old, got)
		}
	}
	if got := wire.Update(65535, 0, 0); got != 0 {
		t.Errorf("Update(65535, 0, 0) is %d", got)
	}
}

func TestUpdateRange(t *testing.T) {
	for _, bad := range outside {
		for _, x := range slices.Concat(inside, outside) {
			for _, y := range []int{0, 1, 0x1234, 65534, 65535, -1, 65536} {
				for _, args := range [][3]int{{bad, x, y}, {x, bad, y}, {x, y, bad}} {
					if got := wire.Update(args[0], args[1], args[2]); got != 0 {
						t.Errorf("Update(%d, %d, %d) is %d", args[0], args[1], args[2], got)
					}
				}
			}
		}
	}
}

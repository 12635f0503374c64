package transport_test

import (
	"encoding/binary"
	"math"
	"slices"
	"testing"

	"routescope/api"
	"routescope/transport"
)

// addresses holds pairs of addresses: the edges, and such as run over.
var addresses = [][2]api.Address{{0, 0}, {0, math.MaxUint32}, {math.MaxUint32, math.MaxUint32}, {here, there}, {0xFFFF0000, 0x0001FFFE}, {1, 1 << 31}}

// refused reports an error of a decoding that is not the expected one, or other results beside an error.
func refused(t *testing.T, f format, b []byte, want api.Errno) {
	t.Helper()
	before := slices.Clone(b)
	n, d, e := f.decode(b)
	if e != want || e != api.OK && (len(d) != 0 || slices.ContainsFunc(n, func(x int) bool { return x != 0 })) {
		t.Errorf("%s: %d bytes %.28x: %v, %d bytes, %d instead of %d", f.name, len(b), b, n, len(d), e, want)
	}
	if !slices.Equal(b, before) {
		t.Errorf("%s: %.28x is modified: %.28x", f.name, before, b)
	}
}

// P6.1

func TestPseudo(t *testing.T) {
	for _, x := range addresses {
		for _, proto := range []int{0, 1, 6, 17, 127, 128, 254, 255} {
			for _, length := range []int{0, 1, 2, 3, 8, 255, 256, 257, 1480, 65534, 65535} {
				b := data(length)
				before := slices.Clone(b[:cap(b)])
				got, turned := transport.Pseudo(x[0], x[1], proto, b), transport.Pseudo(x[1], x[0], proto, b)
				if want := pseudo(x[0], x[1], proto, b); got != want || turned != want {
					t.Errorf("%x with %d and %d bytes: %d, %d instead of %d", x, proto, length, got, turned, want)
				}
				if !slices.Equal(b[:cap(b)], before) {
					t.Errorf("%d bytes are modified", length)
				}
			}
		}
	}
}

func TestPseudoExamples(t *testing.T) {
	for _, x := range []struct {
		src, dst api.Address
		proto    int
		b        []byte
		want     int
	}{
		{0, 0, 0, nil, 65535},
		{0, 0, 255, nil, 65535 - 255},
		{0, 0, 0, []byte{1}, 65535 - 1 - 256},
		{0, 0, 1, []byte{0, 1}, 65535 - 1 - 2 - 1},
		{0xFFFFFFFF, 0xFFFFFFFF, 0, nil, 0},
		{0x00010002, 0x00040008, 16, []byte{0, 0, 0, 32}, 65535 - 1 - 2 - 4 - 8 - 16 - 32 - 4},
		{0x0A000001, 0x0A000002, 17, []byte{0, 1, 0, 2, 0, 8, 0, 0}, 0xEBD8},
	} {
		if got := transport.Pseudo(x.src, x.dst, x.proto, x.b); got != x.want {
			t.Errorf("%x, %x, %d, %x: %d instead of %d", x.src, x.dst, x.proto, x.b, got, x.want)
		}
	}
}

func TestPseudoRange(t *testing.T) {
	for _, proto := range []int{math.MinInt, -256, -255, -1, 256, 257, 262, 65535, 65536, 1 << 32, 1<<32 + 6, math.MaxInt} {
		for _, length := range []int{0, 1, 8, 65535, 65536} {
			if got := transport.Pseudo(here, there, proto, data(length)); got != 0 {
				t.Errorf("%d with %d bytes: %d", proto, length, got)
			}
		}
	}
	for _, length := range []int{65536, 65537, 65536 + 8, 131072, 1 << 20} {
		for _, proto := range []int{0, 6, 17, 255} {
			if got := transport.Pseudo(here, there, proto, make([]byte, length)); got != 0 {
				t.Errorf("%d with %d bytes: %d", proto, length, got)
			}
		}
	}
}

// P6.2 and P6.3

// Whatever is encoded is as it is written place by place, and comes back.
func TestEncodeDecode(t *testing.T) {
	for _, x := range addresses {
		for _, f := range formats(x[0], x[1]) {
			for _, n := range f.values() {
				for _, length := range f.lengths() {
					want := f.written(n, data(length))
					b, e := f.encode(n, data(length))
					if e != api.OK || !slices.Equal(b, want) {
						t.Errorf("%s: %v with %d bytes: %.28x instead of %.28x, %d", f.name, n, length, b, want, e)
					}
					back, d, e := f.decode(want)
					if e != api.OK || !slices.Equal(back, n) || !slices.Equal(d, data(length)) {
						t.Errorf("%s: %.28x comes back as %v, %.28x, %d", f.name, want, back, d, e)
					}
				}
			}
		}
	}
}

// Examples that others have computed by hand.
func TestExamples(t *testing.T) {
	for i, x := range []struct {
		f format
		n []int
		d []byte
		b []byte
	}{
		{echoes("echo", 8), []int{1, 1}, nil, []byte{8, 0, 0xF7, 0xFD, 0, 1, 0, 1}},
		{echoes("echo", 0), []int{0, 0}, nil, []byte{0, 0, 0xFF, 0xFF, 0, 0, 0, 0}},
		{echoes("echo", 0), []int{0x1234, 0x5678}, []byte{0x9A}, []byte{0, 0, 0xFD, 0x52, 0x12, 0x34, 0x56, 0x78, 0x9A}},
		{notices("notice", 3), []int{13}, make([]byte, 28), append([]byte{3, 13, 0xFC, 0xF2}, make([]byte, 32)...)},
		{notices("notice", 11), []int{1}, make([]byte, 28), append([]byte{11, 1, 0xF4, 0xFE}, make([]byte, 32)...)},
		{datagrams(0, 0), []int{1, 2}, []byte{3}, []byte{0, 1, 0, 2, 0, 9, 0xFC, 0xD9, 3}},
		{segments(0, 0), []int{1, 2, 3, 4, 0x14, 5}, nil, []byte{0, 1, 0, 2, 0, 0, 0, 3, 0, 0, 0, 4, 0x50, 0x14, 0, 5, 0xAF, 0xC2, 0, 0}},
	} {
		if b, e := x.f.encode(x.n, x.d); e != api.OK || !slices.Equal(b, x.b) {
			t.Errorf("%d: %x, %d", i, b, e)
		}
		if n, d, e := x.f.decode(x.b); e != api.OK || !slices.Equal(n, x.n) || !slices.Equal(d, x.d) {
			t.Errorf("%d: %v, %x, %d", i, n, d, e)
		}
	}
}

// A number out of its range is refused first, whatever the data is.
func TestEncodeRange(t *testing.T) {
	for _, f := range formats(here, there) {
		for i, x := range f.fields {
			for _, v := range []int{math.MinInt, -1 << 32, -x.top - 1, -x.top, -1, x.top + 1, x.top + 2, 1 << 32, 1<<32 + 1, 1<<40 + 1, math.MaxInt} {
				for _, length := range []int{0, f.least, 1480 - f.head, 1481 - f.head, 65536} {
					n := f.sample()
					n[i] = v
					if b, e := f.encode(n, data(length)); e != api.ErrRange || len(b) != 0 {
						t.Errorf("%s: %v with %d bytes: %.28x, %d", f.name, n, length, b, e)
					}
				}
			}
		}
	}
}

// Of all types, two are those of notices, also where the quote is wrong.
func TestEncodeType(t *testing.T) {
	for kind := -300; kind < 600; kind++ {
		for length, want := range map[int]api.Errno{0: api.ErrShort, 27: api.ErrShort, 28: api.OK, 1472: api.OK, 1473: api.ErrLimit} {
			if kind != 3 && kind != 11 {
				want = api.ErrRange
			}
			if b, e := transport.EncodeNotice(api.Notice{Type: kind, Quote: data(length)}); e != want || e != api.OK && len(b) != 0 {
				t.Errorf("%d with %d bytes: %.28x, %d", kind, length, b, e)
			}
		}
	}
	for _, kind := range []int{math.MinInt, 3 - 1<<32, 3 + 1<<32, 11 + 1<<32, math.MaxInt} {
		if b, e := transport.EncodeNotice(api.Notice{Type: kind, Quote: data(28)}); e != api.ErrRange || len(b) != 0 {
			t.Errorf("%d: %x, %d", kind, b, e)
		}
	}
}

func TestEncodeShortAndLimit(t *testing.T) {
	for _, f := range formats(here, there) {
		for _, n := range f.values() {
			for length := range f.least {
				if b, e := f.encode(n, data(length)); e != api.ErrShort || len(b) != 0 {
					t.Errorf("%s: %v with %d bytes: %.28x, %d", f.name, n, length, b, e)
				}
			}
			for _, length := range []int{1481 - f.head, 1482 - f.head, 1500, 65535, 65536, 65536 + 28, 70000} {
				if b, e := f.encode(n, data(length)); e != api.ErrLimit || len(b) != 0 {
					t.Errorf("%s: %v with %d bytes: %.28x, %d", f.name, n, length, b, e)
				}
			}
		}
	}
}

// Bytes that end too early are refused first, whatever they are.
func TestDecodeShort(t *testing.T) {
	for _, f := range formats(here, there) {
		full := f.written(f.sample(), data(f.least))
		for length := range len(full) {
			refused(t, f, full[:length], api.ErrShort) // what lies behind its end does not count
			refused(t, f, slices.Clip(full[:length]), api.ErrShort)
			refused(t, f, slices.Repeat([]byte{0xEE}, length), api.ErrShort)
		}
		refused(t, f, nil, api.ErrShort)
		refused(t, f, full, api.OK)
	}
}

// Bytes that are fixed are looked at before the limit, and before the checksum, whether it matches or not.
func TestDecodeForm(t *testing.T) {
	for _, f := range formats(here, there) {
		for _, length := range []int{f.least, f.least + 1, 1480 - f.head, 1481 - f.head, 3000} {
			b := f.written(f.sample(), data(length))
			for at, allowed := range f.fixed {
				for x := range 256 {
					c := changed(b, at, byte(x))
					if !slices.Contains(allowed, byte(x)) {
						refused(t, f, c, api.ErrForm)
						refused(t, f, f.summed(c), api.ErrForm)
					} else if len(b) <= 1480 {
						refused(t, f, f.summed(c), api.OK)
					}
				}
			}
		}
	}
}

// The length of a datagram is that of all its bytes, and nothing else.
func TestDecodeLength(t *testing.T) {
	f := datagrams(here, there)
	for _, size := range []int{0, 1, 8, 1472} {
		b := f.written(f.sample(), data(size))
		for length := range 65536 {
			if length == len(b) {
				continue
			}
			binary.BigEndian.PutUint16(b[4:], uint16(length))
			if _, d, e := f.decode(b); e != api.ErrForm || len(d) != 0 {
				t.Fatalf("the length %d of %d bytes: %d", length, len(b), e)
			}
		}
		binary.BigEndian.PutUint16(b[4:], uint16(len(b)))
		refused(t, f, b, api.OK)
		refused(t, f, b[:len(b)-1], map[bool]api.Errno{true: api.ErrShort, false: api.ErrForm}[size == 0])
		refused(t, f, append(slices.Clone(b), 0), api.ErrForm)
	}
	// A length of two bytes is never that of more than 65535 bytes.
	for _, size := range []int{65536 - 8, 65536, 65536 + 100, 131072} {
		refused(t, f, f.written(f.sample(), data(size)), api.ErrForm)
	}
}

// Too many bytes are refused before the checksum is looked at.
func TestDecodeLimit(t *testing.T) {
	for _, f := range formats(here, there) {
		for _, size := range []int{1481, 1482, 1500, 1501, 65534, 65535} {
			b := f.written(f.sample(), data(size-f.head))
			refused(t, f, b, api.ErrLimit)
			refused(t, f, changed(b, f.sumAt, b[f.sumAt]+1), api.ErrLimit)
		}
		if f.name != "UDP" {
			refused(t, f, f.written(f.sample(), data(70000)), api.ErrLimit)
		}
		b := f.written(f.sample(), data(1480-f.head))
		refused(t, f, b, api.OK)
		refused(t, f, changed(b, f.sumAt, b[f.sumAt]+1), api.ErrSum)
	}
}

// balanced returns an encoding of which the numbers beside the checksum have the one's complement sum 65535.
func balanced(f format) []byte {
	for i := range 65536 {
		d := data(f.least + 2 + f.least%2)
		binary.BigEndian.PutUint16(d[len(d)-2:], uint16(i))
		b := f.written(f.sample(), d)
		if sum := binary.BigEndian.Uint16(b[f.sumAt:]); sum == 0 || f.name == "UDP" && sum == 65535 {
			return b
		}
	}
	return nil
}

// Of all checksums one is accepted: 0 and 65535 are told apart, and of UDP it is 65535, of the others 0.
func TestDecodeSum(t *testing.T) {
	for _, f := range formats(here, there) {
		for _, b := range [][]byte{balanced(f), f.written(make([]int, len(f.fields)), make([]byte, f.least)), f.written(f.sample(), data(f.least+1))} {
			want := int(binary.BigEndian.Uint16(b[f.sumAt:]))
			for sum := range 65536 {
				c := slices.Clone(b)
				binary.BigEndian.PutUint16(c[f.sumAt:], uint16(sum))
				if _, d, e := f.decode(c); sum == want && e != api.OK || sum != want && (e != api.ErrSum || len(d) != 0) {
					t.Fatalf("%s: %x with %x: %d", f.name, b, sum, e)
				}
			}
		}
	}
}

func TestBalanced(t *testing.T) {
	for _, f := range formats(here, there) {
		b := balanced(f)
		want := []byte{0, 0}
		if f.name == "UDP" {
			want = []byte{255, 255}
		}
		n, d, e := f.decode(b)
		if e != api.OK || !slices.Equal(b[f.sumAt:f.sumAt+2], want) {
			t.Errorf("%s: %x, %d", f.name, b, e)
		}
		if got, e := f.encode(n, d); e != api.OK || !slices.Equal(got, b) {
			t.Errorf("%s: %x instead of %x, %d", f.name, got, b, e)
		}
	}
}

// A change of any one byte is noticed.
func TestOneByte(t *testing.T) {
	for _, f := range formats(here, there) {
		for _, b := range [][]byte{f.written(f.sample(), data(f.least)), f.written(f.sample(), data(f.least+5)), f.written(make([]int, len(f.fields)), make([]byte, f.least+2)), balanced(f)} {
			for at := range b {
				for x := range 256 {
					_, _, e := f.decode(changed(b, at, byte(x)))
					if noticed := e == api.ErrForm || e == api.ErrSum; noticed == (b[at] == byte(x)) {
						t.Errorf("%s: %x with %x at %d: %d", f.name, b, x, at, e)
					}
				}
			}
		}
	}
}

// The checksums of UDP and TCP cover the addresses and the protocol, but not which address is the source.
func TestAddresses(t *testing.T) {
	for _, between := range []func(src, dst api.Address) format{datagrams, segments} {
		f := between(here, there)
		b := f.written(f.sample(), data(9))
		refused(t, between(there, here), b, api.OK)
		for bit := range 32 {
			refused(t, between(here^1<<bit, there), b, api.ErrSum)
			refused(t, between(here, there^1<<bit), b, api.ErrSum)
		}
	}
	for _, f := range []format{datagrams(here, there), segments(here, there)} {
		for proto := range 256 {
			b := f.written(f.sample(), data(9))
			binary.BigEndian.PutUint16(b[f.sumAt:], 0)
			binary.BigEndian.PutUint16(b[f.sumAt:], uint16(pseudo(here, there, proto, b)))
			want := api.ErrSum
			if proto == 17 && f.name == "UDP" || proto == 6 && f.name == "TCP" {
				want = api.OK
			}
			refused(t, f, b, want)
		}
	}
}

// Whatever is accepted is what its value is encoded as.
func TestOtherWay(t *testing.T) {
	for _, f := range formats(here, there) {
		accepted := 0
		full := f.written(f.sample(), data(f.least+6))
		for at := range full {
			for _, x := range []byte{0, 1, 3, 8, 11, 14, 0x50, 0x80, 255} {
				b := f.summed(changed(full, at, x))
				n, d, e := f.decode(b)
				if e != api.OK || f.fixed[0] != nil && b[0] != full[0] { // another type is of another format here
					continue
				}
				accepted++
				if again, e := f.encode(n, d); e != api.OK || !slices.Equal(again, b) {
					t.Errorf("%s: %x comes back as %x, %d", f.name, b, again, e)
				}
			}
		}
		if accepted < len(full) {
			t.Errorf("%s: %d are accepted", f.name, accepted)
		}
	}
}

// overwrite overwrites bytes with their spare capacity.
func overwrite(b []byte) {
	b = b[:cap(b)]
	for i := range b {
		b[i] = 0xEE
	}
}

// Arguments, with their spare capacity, stay as they are, also when results are overwritten; and results share nothing with each other.
func TestMemory(t *testing.T) {
	for _, f := range formats(here, there) {
		for _, length := range []int{f.least, f.least + 1, f.least + 30} {
			d, want := data(length), f.written(f.sample(), data(length))
			before := slices.Clone(d[:cap(d)])
			one, _ := f.encode(f.sample(), d)
			two, _ := f.encode(f.sample(), d)
			overwrite(one)
			if !slices.Equal(d[:cap(d)], before) || !slices.Equal(two, want) {
				t.Errorf("%s: encoding %d bytes: %x, %x", f.name, length, d[:cap(d)], two)
			}
			b := append(slices.Clone(want), data(8)...)[:len(want)]
			kept := slices.Clone(b[:cap(b)])
			_, first, _ := f.decode(b)
			_, second, _ := f.decode(b)
			overwrite(first)
			if !slices.Equal(b[:cap(b)], kept) || !slices.Equal(second, data(length)) {
				t.Errorf("%s: decoding %d bytes: %x, %x", f.name, length, b[:cap(b)], second)
			}
			overwrite(b)
			if !slices.Equal(second, data(length)) {
				t.Errorf("%s: the data is overwritten: %x", f.name, second)
			}
		}
	}
}

package ipv4_test

import (
	"encoding/binary"
	"math"
	"slices"
	"testing"

	"routescope/api"
	"routescope/ipv4"
	"routescope/wire"
)

// sample is a header in which all bytes differ.
var sample = api.Header{TOS: 0xA1, ID: 0xB2C3, TTL: 0x37, Proto: 17, Keep: true, Src: 0x0A0B0C0D, Dst: 0xC0A81E2F}

// none is what comes with an error.
var none api.Header

// headers returns headers that Check accepts: the edges of all fields, and one whose checksum is 0.
func headers() []api.Header {
	list := []api.Header{
		{}, sample, {Keep: true},
		{TOS: 255, ID: 65535, TTL: 255, Proto: 255, Keep: true, Src: math.MaxUint32, Dst: math.MaxUint32},
		{TOS: 255, ID: 65535, TTL: 255, Proto: 255, Src: math.MaxUint32, Dst: math.MaxUint32},
		{ID: 65535 - 0x4500 - 20}, // its sum without data is 65535
	}
	for _, n := range []int{1, 2, 127, 128, 254, 255} {
		list = append(list, api.Header{TOS: n}, api.Header{TTL: n}, api.Header{Proto: n}, api.Header{ID: n}, api.Header{ID: n << 8})
	}
	for bit := range 32 {
		list = append(list, api.Header{Src: 1 << bit}, api.Header{Dst: 1 << bit, Keep: true})
	}
	return list
}

// data returns so many bytes that differ, with spare capacity behind them.
func data(length int) []byte {
	b := make([]byte, length+8)
	for i := range b {
		b[i] = byte(i*37 + i>>8 + 1)
	}
	return b[:length]
}

// summed returns bytes with the checksum of the first 20 in its place, reckoned modulo 65535.
func summed(b []byte) []byte {
	out := slices.Clone(b)
	binary.BigEndian.PutUint16(out[10:], 0)
	total := 0
	for i := 0; i < 20; i += 2 {
		total += int(binary.BigEndian.Uint16(out[i:]))
	}
	if total > 0 {
		total = (total-1)%65535 + 1
	}
	binary.BigEndian.PutUint16(out[10:], uint16(65535-total))
	return out
}

// written returns the bytes of a packet with this number as its length, written place by place.
func written(h api.Header, length int, data []byte) []byte {
	b := make([]byte, 20)
	b[0], b[1], b[8], b[9] = 0x45, byte(h.TOS), byte(h.TTL), byte(h.Proto)
	binary.BigEndian.PutUint16(b[2:], uint16(length))
	binary.BigEndian.PutUint16(b[4:], uint16(h.ID))
	if h.Keep {
		b[6] = 0x40
	}
	binary.BigEndian.PutUint32(b[12:], uint32(h.Src))
	binary.BigEndian.PutUint32(b[16:], uint32(h.Dst))
	return append(summed(b), data...)
}

// packet returns the bytes of a packet.
func packet(h api.Header, data []byte) []byte { return written(h, 20+len(data), data) }

// changed returns bytes with one byte replaced.
func changed(b []byte, at int, x byte) []byte {
	out := slices.Clone(b)
	out[at] = x
	return out
}

// refused reports an error of Peek, Decode and Lower that is not the expected one, or other results beside an error.
func refused(t *testing.T, b []byte, peek, decode, lower api.Errno) {
	t.Helper()
	before := slices.Clone(b)
	if h, n, e := ipv4.Peek(b); e != peek || e != api.OK && (h != none || n != 0) {
		t.Errorf("Peek of %d bytes %.28x: %v, %d, %d", len(b), b, h, n, e)
	}
	if p, e := ipv4.Decode(b); e != decode || e != api.OK && (p.Header != none || len(p.Data) != 0) {
		t.Errorf("Decode of %d bytes %.28x: %v, %d", len(b), b, p, e)
	}
	if got, e := ipv4.Lower(b); e != lower || e != api.OK && len(got) != 0 {
		t.Errorf("Lower of %d bytes %.28x: %x, %d", len(b), b, got, e)
	}
	if !slices.Equal(b, before) {
		t.Errorf("%.28x is modified: %.28x", before, b)
	}
}

// P5.1

func TestCheck(t *testing.T) {
	for _, h := range headers() {
		if e := ipv4.Check(h); e != api.OK {
			t.Errorf("%+v: %d", h, e)
		}
	}
}

// wrong returns headers with one number out of its range.
func wrong() []api.Header {
	var list []api.Header
	for _, n := range []int{math.MinInt, -1 << 32, -65536, -256, -255, -1, 256, 257, 511, 65535, 65536, 1 << 32, 1<<32 + 1, math.MaxInt} {
		for _, set := range []func(h *api.Header){
			func(h *api.Header) { h.TOS = n }, func(h *api.Header) { h.TTL = n }, func(h *api.Header) { h.Proto = n },
		} {
			h := sample
			set(&h)
			list = append(list, h)
		}
	}
	for _, n := range []int{math.MinInt, -65536, -65535, -1, 65536, 65537, 131071, 1 << 32, 1<<32 + 1, math.MaxInt} {
		list = append(list, api.Header{ID: n})
	}
	return list
}

func TestCheckRange(t *testing.T) {
	for _, h := range wrong() {
		if e := ipv4.Check(h); e != api.ErrRange {
			t.Errorf("%+v: %d", h, e)
		}
	}
}

// P5.2

func TestEncode(t *testing.T) {
	for _, h := range headers() {
		for _, length := range []int{0, 1, 2, 3, 8, 235, 236, 237, 1479, 1480} {
			d := data(length)
			got, e := ipv4.Encode(api.Packet{Header: h, Data: d})
			if e != api.OK || !slices.Equal(got, packet(h, d)) {
				t.Errorf("%+v with %d bytes: %.28x, %d", h, length, got, e)
			}
		}
	}
}

// Packets that others have computed by hand.
func TestEncodeExamples(t *testing.T) {
	for _, x := range []struct {
		p api.Packet
		b []byte
	}{
		{api.Packet{Header: api.Header{TTL: 64, Proto: 17, Keep: true, Src: 0xC0A80001, Dst: 0xC0A800C7}, Data: make([]byte, 95)}, []byte{0x45, 0, 0, 0x73, 0, 0, 0x40, 0, 0x40, 0x11, 0xB8, 0x61, 0xC0, 0xA8, 0, 1, 0xC0, 0xA8, 0, 0xC7}},
		{api.Packet{Header: api.Header{TTL: 64, Proto: 6, ID: 0x1C46, Keep: true, Src: 0xAC100A63, Dst: 0xAC100A0C}, Data: make([]byte, 40)}, []byte{0x45, 0, 0, 0x3C, 0x1C, 0x46, 0x40, 0, 0x40, 0x06, 0xB1, 0xE6, 0xAC, 0x10, 0x0A, 0x63, 0xAC, 0x10, 0x0A, 0x0C}},
		{api.Packet{Header: api.Header{ID: 0xBAEB}}, []byte{0x45, 0, 0, 20, 0xBA, 0xEB, 0, 0, 0, 0, 0, 0, 0, 0, 0, 0, 0, 0, 0, 0}},
	} {
		b, e := ipv4.Encode(x.p)
		if e != api.OK || !slices.Equal(b, slices.Concat(x.b, x.p.Data)) {
			t.Errorf("%+v: %x, %d", x.p.Header, b, e)
		}
	}
	if b, e := ipv4.Encode(api.Packet{}); e != api.OK || len(b) != 20 {
		t.Errorf("a packet without data: %x, %d", b, e)
	}
}

// A wrong header is refused first, also where there is too much data.
func TestEncodeErrors(t *testing.T) {
	for _, length := range []int{0, 1480, 1481, 1482, 1500, 1501, 65515, 65516, 70000} {
		for _, h := range wrong() {
			if b, e := ipv4.Encode(api.Packet{Header: h, Data: data(length)}); e != api.ErrRange || len(b) != 0 {
				t.Errorf("%+v with %d bytes: %x, %d", h, length, b, e)
			}
		}
		if length <= 1480 {
			continue
		}
		for _, h := range headers() {
			if b, e := ipv4.Encode(api.Packet{Header: h, Data: data(length)}); e != api.ErrLimit || len(b) != 0 {
				t.Errorf("%+v with %d bytes: %x, %d", h, length, b, e)
			}
		}
	}
}

// The data, with its spare capacity, stays as it is, also when the result is overwritten; and results share nothing with each other.
func TestEncodeMemory(t *testing.T) {
	for _, length := range []int{0, 1, 30} {
		d := data(length)
		before := slices.Clone(d[:cap(d)])
		one, _ := ipv4.Encode(api.Packet{Header: sample, Data: d})
		two, _ := ipv4.Encode(api.Packet{Header: sample, Data: d})
		all := one[:cap(one)]
		for i := range all {
			all[i] = 0xEE
		}
		if !slices.Equal(d[:cap(d)], before) || !slices.Equal(two, packet(sample, data(length))) {
			t.Errorf("with %d bytes: %v, %v", length, d[:cap(d)], two)
		}
	}
}

// P5.3

func TestDecode(t *testing.T) {
	for _, h := range headers() {
		for _, length := range []int{0, 1, 2, 235, 236, 1479, 1480} {
			b := packet(h, data(length))
			before := slices.Clone(b)
			p, e := ipv4.Decode(b)
			if e != api.OK || p.Header != h || !slices.Equal(p.Data, data(length)) {
				t.Errorf("%.28x: %+v, %d", b, p.Header, e)
			}
			again, e := ipv4.Encode(p)
			if e != api.OK || !slices.Equal(again, before) || !slices.Equal(b, before) {
				t.Errorf("%.28x comes back as %.28x, %d", before, again, e)
			}
		}
	}
}

func TestDecodeErrors(t *testing.T) {
	b := packet(sample, data(8))
	longer := append(slices.Clone(b), 0)
	refused(t, b, api.OK, api.OK, api.OK)
	refused(t, b[:27], api.OK, api.ErrForm, api.ErrForm) // what lies behind its end does not count
	refused(t, b[:20], api.OK, api.ErrForm, api.ErrForm)
	refused(t, longer, api.OK, api.ErrForm, api.ErrForm)
	refused(t, written(sample, 20, data(8)), api.OK, api.ErrForm, api.ErrForm)
	refused(t, written(sample, 29, data(8)), api.OK, api.ErrForm, api.ErrForm)
	refused(t, written(sample, 65535, data(8)), api.OK, api.ErrForm, api.ErrForm)
	// The errors of Peek come before the others.
	refused(t, changed(longer, 11, b[11]+1), api.ErrSum, api.ErrSum, api.ErrSum)
	refused(t, changed(longer, 0, 0x46), api.ErrForm, api.ErrForm, api.ErrForm)
	refused(t, changed(packet(sample, data(1481)), 12, 0), api.ErrSum, api.ErrSum, api.ErrSum)
}

func TestDecodeLimit(t *testing.T) {
	for _, length := range []int{1481, 1482, 3000, 65514, 65515} {
		refused(t, packet(sample, data(length)), api.OK, api.ErrLimit, api.ErrLimit)
		refused(t, append(packet(sample, data(length)), 0), api.OK, api.ErrForm, api.ErrForm)
	}
	// A length of two bytes is never that of more than 65535 bytes.
	for _, length := range []int{65536, 65536 + 20, 65536 + 1500} {
		refused(t, written(sample, max(length%65536, 20), data(length-20)), api.OK, api.ErrForm, api.ErrForm)
	}
}

// The data is a copy: neither overwrites the other.
func TestDecodeMemory(t *testing.T) {
	b := packet(sample, data(8))
	one, _ := ipv4.Decode(b)
	two, _ := ipv4.Decode(b)
	all := one.Data[:cap(one.Data)]
	for i := range all {
		all[i] = 0xEE
	}
	if !slices.Equal(b, packet(sample, data(8))) || !slices.Equal(two.Data, data(8)) {
		t.Errorf("%x, %x", b, two.Data)
	}
	for i := range b {
		b[i] = 0xDD
	}
	if !slices.Equal(two.Data, data(8)) {
		t.Errorf("the data is overwritten: %x", two.Data)
	}
}

// P5.4

func TestPeek(t *testing.T) {
	for _, h := range headers() {
		for _, length := range []int{20, 21, 28, 255, 256, 1500, 1501, 65535} {
			for _, behind := range []int{0, 1, 8, 2000} {
				b := written(h, length, data(behind))
				before := slices.Clone(b)
				if got, n, e := ipv4.Peek(b); e != api.OK || n != length || got != h || !slices.Equal(b, before) {
					t.Errorf("%.28x: %+v, %d, %d", before, got, n, e)
				}
			}
		}
	}
}

// Bytes that end too early are refused first, whatever they are.
func TestPeekShort(t *testing.T) {
	for _, b := range [][]byte{packet(sample, nil), changed(packet(sample, nil), 0, 0), changed(packet(sample, nil), 2, 9), make([]byte, 20)} {
		for length := range 20 {
			refused(t, b[:length], api.ErrShort, api.ErrShort, api.ErrShort)
			refused(t, slices.Clip(b[:length]), api.ErrShort, api.ErrShort, api.ErrShort)
		}
	}
	refused(t, nil, api.ErrShort, api.ErrShort, api.ErrShort)
}

// Only one first byte, two pairs at the bytes 6 and 7, and lengths from 20 on are permitted, whether the checksum matches or not.
func TestPeekForm(t *testing.T) {
	b := packet(sample, nil)
	for x := range 256 {
		if x != 0x45 {
			refused(t, summed(changed(b, 0, byte(x))), api.ErrForm, api.ErrForm, api.ErrForm)
			refused(t, changed(b, 0, byte(x)), api.ErrForm, api.ErrForm, api.ErrForm)
		}
	}
	for x := range 65536 {
		c := changed(changed(b, 6, byte(x>>8)), 7, byte(x))
		h, n, e := ipv4.Peek(summed(c))
		if x == 0 || x == 0x4000 {
			if e != api.OK || n != 20 || h.Keep != (x == 0x4000) {
				t.Errorf("%x at the byte 6: %+v, %d, %d", x, h, n, e)
			}
			continue
		}
		if _, _, f := ipv4.Peek(c); e != api.ErrForm || f != api.ErrForm || h != none || n != 0 {
			t.Fatalf("%x at the byte 6: %+v, %d, %d, %d", x, h, n, e, f)
		}
	}
	for length := range 20 {
		refused(t, written(sample, length, nil), api.ErrForm, api.ErrForm, api.ErrForm)
		refused(t, changed(b, 3, byte(length)), api.ErrForm, api.ErrForm, api.ErrForm)
	}
}

// Of all checksums one is accepted: 65535 is not taken for 0.
func TestPeekSum(t *testing.T) {
	for _, b := range [][]byte{packet(sample, data(3)), packet(api.Header{ID: 0xBAEB}, nil), packet(api.Header{}, nil)} {
		want := int(binary.BigEndian.Uint16(b[10:]))
		for sum := range 65536 {
			c := changed(changed(b, 10, byte(sum>>8)), 11, byte(sum))
			h, n, e := ipv4.Peek(c)
			if sum == want && e == api.OK && n == len(b) || sum != want && e == api.ErrSum && h == none && n == 0 {
				continue
			}
			t.Fatalf("%x: %+v, %d, %d", c, h, n, e)
		}
	}
	refused(t, changed(changed(packet(api.Header{ID: 0xBAEB}, nil), 10, 255), 11, 255), api.ErrSum, api.ErrSum, api.ErrSum)
	// The checksum of a header does not depend on the data, nor does it cover it.
	refused(t, changed(packet(sample, data(3)), 20, 0xEE), api.OK, api.OK, api.OK)
}

// A change of any one byte of a header is noticed.
func TestOneByte(t *testing.T) {
	for _, h := range []api.Header{sample, {}, {ID: 0xBAEB}, {TTL: 9, Keep: true}, {ID: 65535, Src: math.MaxUint32, Dst: math.MaxUint32}} {
		b := packet(h, data(5))
		for at := range 20 {
			for x := range 256 {
				p, e := ipv4.Decode(changed(b, at, byte(x)))
				if noticed := e == api.ErrForm || e == api.ErrSum; noticed == (b[at] == byte(x)) {
					t.Errorf("%x with %x at %d: %+v, %d", b, x, at, p.Header, e)
				}
			}
		}
	}
}

// Whatever Decode accepts is what Encode returns for it.
func TestOtherWay(t *testing.T) {
	accepted := 0
	for _, h := range headers() {
		for at := range 20 {
			for _, x := range []byte{0, 1, 0x40, 0x45, 255} {
				b := summed(changed(packet(h, data(6)), at, x))
				p, e := ipv4.Decode(b)
				if e != api.OK {
					continue
				}
				accepted++
				if again, e := ipv4.Encode(p); e != api.OK || !slices.Equal(again, b) {
					t.Errorf("%x comes back as %x, %d", b, again, e)
				}
			}
		}
	}
	if accepted == 0 {
		t.Error("no packet is accepted")
	}
}

// P5.5

func TestLower(t *testing.T) {
	for _, h := range headers() {
		for _, length := range []int{0, 1, 28, 1480} {
			for _, ttl := range []int{2, 3, 64, 128, 254, 255} {
				h.TTL = ttl
				b := packet(h, data(length))
				before := slices.Clone(b)
				h.TTL = ttl - 1
				got, e := ipv4.Lower(b)
				if e != api.OK || !slices.Equal(got, packet(h, data(length))) || !slices.Equal(b, before) {
					t.Errorf("%.28x: %.28x, %d", before, got, e)
				}
			}
		}
	}
}

// Lower changes the TTL and the checksum alone, and the checksum as wire.Update says, down to the TTL 1.
func TestLowerUpdate(t *testing.T) {
	h := sample
	h.TTL = 255
	b := packet(h, data(9))
	for ttl := 254; ttl >= 1; ttl-- {
		got, e := ipv4.Lower(b)
		sum := wire.Update(int(binary.BigEndian.Uint16(b[10:])), int(binary.BigEndian.Uint16(b[8:])), ttl<<8|h.Proto)
		want := changed(changed(changed(b, 8, byte(ttl)), 10, byte(sum>>8)), 11, byte(sum))
		if e != api.OK || !slices.Equal(got, want) {
			t.Fatalf("%x: %x instead of %x, %d", b, got, want, e)
		}
		b = got
	}
	refused(t, b, api.OK, api.OK, api.ErrState)
}

// The TTL is looked at last.
func TestLowerErrors(t *testing.T) {
	for ttl := range 2 {
		h := sample
		h.TTL = ttl
		b := packet(h, data(8))
		refused(t, b, api.OK, api.OK, api.ErrState)
		refused(t, packet(h, nil), api.OK, api.OK, api.ErrState)
		refused(t, append(b, 0), api.OK, api.ErrForm, api.ErrForm)
		refused(t, packet(h, data(1481)), api.OK, api.ErrLimit, api.ErrLimit)
		refused(t, changed(b, 10, b[10]+1), api.ErrSum, api.ErrSum, api.ErrSum)
		refused(t, changed(b, 0, 0x44), api.ErrForm, api.ErrForm, api.ErrForm)
		refused(t, b[:19], api.ErrShort, api.ErrShort, api.ErrShort)
	}
}

func TestLowerMemory(t *testing.T) {
	b := packet(sample, data(8))
	got, _ := ipv4.Lower(b)
	all := got[:cap(got)]
	for i := range all {
		all[i] = 0xEE
	}
	if !slices.Equal(b, packet(sample, data(8))) {
		t.Errorf("overwritten: %x", b)
	}
}

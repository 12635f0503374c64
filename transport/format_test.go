package transport_test

import (
	"encoding/binary"
	"slices"

	"routescope/api"
	"routescope/transport"
)

const (
	here  = api.Address(0x0A0B0C0D)
	there = api.Address(0xC0A8FE02)
)

// total returns the checksum of bytes, reckoned modulo 65535.
func total(b []byte) int {
	sum := 0
	for i, x := range b {
		sum += int(x) << (8 - i%2*8)
	}
	if sum > 0 {
		sum = (sum-1)%65535 + 1
	}
	return 65535 - sum
}

// pseudo returns the checksum of bytes behind addresses, protocol and length.
func pseudo(src, dst api.Address, proto int, b []byte) int {
	head := binary.BigEndian.AppendUint32(nil, uint32(src))
	head = binary.BigEndian.AppendUint32(head, uint32(dst))
	head = append(head, 0, byte(proto), byte(len(b)>>8), byte(len(b)))
	return total(append(head, b...))
}

// data returns so many bytes that differ, with spare capacity behind them.
func data(length int) []byte {
	b := make([]byte, length+8)
	for i := range b {
		b[i] = byte(i*37 + i>>8 + 1)
	}
	return b[:length]
}

// changed returns bytes with one byte replaced.
func changed(b []byte, at int, x byte) []byte {
	out := slices.Clone(b)
	out[at] = x
	return out
}

// field is a number of a format: its place, its width, and the greatest number in it.
type field struct{ at, width, top int }

// format is one of the four formats. Its values are taken as lists of numbers and data.
type format struct {
	name   string
	fields []field
	fixed  map[int][]byte // the bytes that may stand at places where there is no number
	head   int            // bytes before the data
	least  int            // bytes of data at least
	sumAt  int
	sum    func(b []byte) int // the checksum of bytes with 0 in its place
	encode func(n []int, data []byte) ([]byte, api.Errno)
	decode func(b []byte) ([]int, []byte, api.Errno)
}

// summed returns bytes with their checksum in its place.
func (f format) summed(b []byte) []byte {
	out := slices.Clone(b)
	binary.BigEndian.PutUint16(out[f.sumAt:], 0)
	binary.BigEndian.PutUint16(out[f.sumAt:], uint16(f.sum(out)))
	return out
}

// written returns an encoding, written place by place.
func (f format) written(n []int, data []byte) []byte {
	b := make([]byte, f.head)
	for at, allowed := range f.fixed {
		b[at] = allowed[0]
	}
	for i, x := range f.fields {
		for k := range x.width {
			b[x.at+k] = byte(n[i] >> (8 * (x.width - 1 - k)))
		}
	}
	b = append(b, data...)
	if f.name == "UDP" {
		binary.BigEndian.PutUint16(b[4:], uint16(len(b)))
	}
	return f.summed(b)
}

// sample returns numbers whose bytes differ.
func (f format) sample() []int {
	var n []int
	for i, x := range f.fields {
		n = append(n, (0xA1B2C3D4+i*0x01070503)&x.top)
	}
	return n
}

// values returns lists of numbers that may be encoded: the edges, and each number alone.
func (f format) values() [][]int {
	zero, top := make([]int, len(f.fields)), make([]int, len(f.fields))
	for i, x := range f.fields {
		top[i] = x.top
	}
	list := [][]int{zero, top, f.sample()}
	for i, x := range f.fields {
		for _, v := range []int{1, 2, 127, 128, 255, x.top / 2, x.top - 1, x.top} {
			one, other := slices.Clone(zero), slices.Clone(top)
			one[i], other[i] = v&x.top, v&x.top
			list = append(list, one, other)
		}
	}
	return list
}

// lengths returns numbers of bytes of data that may be encoded.
func (f format) lengths() []int {
	return []int{f.least, f.least + 1, f.least + 2, f.least + 200, 255, 256, 1480 - f.head - 1, 1480 - f.head}
}

// echoes returns the format of echo requests or of replies.
func echoes(name string, kind byte) format {
	reply := kind == api.EchoReply
	return format{
		name: name, head: 8, sumAt: 2, sum: total,
		fields: []field{{4, 2, 65535}, {6, 2, 65535}},
		fixed:  map[int][]byte{0: {kind, 8 - kind}, 1: {0}},
		encode: func(n []int, data []byte) ([]byte, api.Errno) {
			return transport.EncodeEcho(api.Echo{Reply: reply, Ident: n[0], Seq: n[1], Data: data})
		},
		decode: func(b []byte) ([]int, []byte, api.Errno) {
			x, e := transport.DecodeEcho(b)
			if e != api.OK && x.Reply || e == api.OK && x.Reply != (b[0] == 0) {
				return []int{-1}, nil, e
			}
			return []int{x.Ident, x.Seq}, x.Data, e
		},
	}
}

// notices returns the format of notices of a type.
func notices(name string, kind byte) format {
	other := byte(api.Unreachable + api.TimeExceeded - int(kind))
	return format{
		name: name, head: 8, least: 28, sumAt: 2, sum: total,
		fields: []field{{1, 1, 255}},
		fixed:  map[int][]byte{0: {kind, other}, 4: {0}, 5: {0}, 6: {0}, 7: {0}},
		encode: func(n []int, data []byte) ([]byte, api.Errno) {
			return transport.EncodeNotice(api.Notice{Type: int(kind), Code: n[0], Quote: data})
		},
		decode: func(b []byte) ([]int, []byte, api.Errno) {
			x, e := transport.DecodeNotice(b)
			if e != api.OK && x.Type != 0 || e == api.OK && x.Type != int(b[0]) {
				return []int{-1}, nil, e
			}
			return []int{x.Code}, x.Quote, e
		},
	}
}

// datagrams returns the format of UDP between two addresses.
func datagrams(src, dst api.Address) format {
	return format{
		name: "UDP", head: 8, sumAt: 6,
		fields: []field{{0, 2, 65535}, {2, 2, 65535}},
		sum: func(b []byte) int {
			if sum := pseudo(src, dst, 17, b); sum > 0 {
				return sum
			}
			return 65535
		},
		encode: func(n []int, data []byte) ([]byte, api.Errno) {
			return transport.EncodeUDP(src, dst, api.Datagram{SrcPort: n[0], DstPort: n[1], Data: data})
		},
		decode: func(b []byte) ([]int, []byte, api.Errno) {
			x, e := transport.DecodeUDP(src, dst, b)
			return []int{x.SrcPort, x.DstPort}, x.Data, e
		},
	}
}

// segments returns the format of TCP between two addresses.
func segments(src, dst api.Address) format {
	return format{
		name: "TCP", head: 20, sumAt: 16,
		fields: []field{{0, 2, 65535}, {2, 2, 65535}, {4, 4, 1<<32 - 1}, {8, 4, 1<<32 - 1}, {13, 1, 255}, {14, 2, 65535}},
		fixed:  map[int][]byte{12: {0x50}, 18: {0}, 19: {0}},
		sum:    func(b []byte) int { return pseudo(src, dst, 6, b) },
		encode: func(n []int, data []byte) ([]byte, api.Errno) {
			return transport.EncodeTCP(src, dst, api.Segment{SrcPort: n[0], DstPort: n[1], Seq: n[2], Ack: n[3], Flags: n[4], Window: n[5], Data: data})
		},
		decode: func(b []byte) ([]int, []byte, api.Errno) {
			x, e := transport.DecodeTCP(src, dst, b)
			return []int{x.SrcPort, x.DstPort, x.Seq, x.Ack, x.Flags, x.Window}, x.Data, e
		},
	}
}

// formats returns the formats between two addresses.
func formats(src, dst api.Address) []format {
	return []format{
		echoes("echo request", 8), echoes("echo reply", 0), notices("unreachable", 3), notices("time exceeded", 11),
		datagrams(src, dst), segments(src, dst),
	}
}

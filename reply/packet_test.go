package reply_test

import (
	"encoding/binary"
	"slices"

	"routescope/api"
)

const (
	here   = api.Address(0x0A0B0C0D)
	there  = api.Address(0xC0A8FE02)
	router = api.Address(0x08090A0B)
)

// protocols holds those of probes.
var protocols = []int{1, 6, 17}

// sum returns the one's complement sum of bytes, reckoned modulo 65535.
func sum(b []byte) int {
	total := 0
	for i, x := range b {
		total += int(x) << (8 - i%2*8)
	}
	if total > 0 {
		total = (total-1)%65535 + 1
	}
	return total
}

// numbers appends numbers of 2 bytes.
func numbers(b []byte, list ...int) []byte {
	for _, n := range list {
		b = binary.BigEndian.AppendUint16(b, uint16(n))
	}
	return b
}

// summed returns bytes with the checksum of all, behind the bytes of head, at the index at.
func summed(b []byte, at int, head ...byte) []byte {
	out := slices.Clone(b)
	binary.BigEndian.PutUint16(out[at:], 0)
	binary.BigEndian.PutUint16(out[at:], uint16(65535-sum(append(head, out...))))
	return out
}

// packed returns a packet with a header and data, written number by number.
func packed(h api.Header, data []byte) []byte {
	return append(headed(h, 20+len(data)), data...)
}

// headed returns a header with this length in it.
func headed(h api.Header, length int) []byte {
	keep := 0
	if h.Keep {
		keep = 0x4000
	}
	return summed(numbers(nil, 0x4500+h.TOS, length, h.ID, keep, h.TTL*256+h.Proto, 0, int(h.Src>>16), int(h.Src&65535), int(h.Dst>>16), int(h.Dst&65535)), 10)
}

// icmp returns an ICMP message: type and code, two numbers, and what follows them.
func icmp(kind, code, first, second int, rest []byte) []byte {
	return summed(append(numbers(nil, kind*256+code, 0, first, second), rest...), 2)
}

// pseudo returns what checksums of UDP and TCP cover before so many bytes.
func pseudo(src, dst api.Address, proto, length int) []byte {
	b := binary.BigEndian.AppendUint32(nil, uint32(src))
	return append(binary.BigEndian.AppendUint32(b, uint32(dst)), 0, byte(proto), byte(length>>8), byte(length))
}

// udp returns a datagram.
func udp(src, dst api.Address, from, to int, data []byte) []byte {
	b := summed(append(numbers(nil, from, to, 8+len(data), 0), data...), 6, pseudo(src, dst, 17, 8+len(data))...)
	if b[6] == 0 && b[7] == 0 {
		b[6], b[7] = 255, 255
	}
	return b
}

// tcp returns a segment.
func tcp(src, dst api.Address, s api.Segment) []byte {
	b := numbers(nil, s.SrcPort, s.DstPort, s.Seq>>16, s.Seq&65535, s.Ack>>16, s.Ack&65535, 0x5000+s.Flags, s.Window, 0, 0)
	return summed(append(b, s.Data...), 16, pseudo(src, dst, 6, 20+len(s.Data))...)
}

// balanced returns those data of 2 bytes, not both 0, with which the checksum at the index at is the required one.
func balanced(at, required int, write func(two []byte) []byte) []byte {
	before := int(binary.BigEndian.Uint16(write([]byte{0, 0})[at:]))
	return write(numbers(nil, (before+65535-required+65534)%65535+1))
}

// content returns the data of the packet of a probe.
func content(p api.Probe) []byte {
	switch p.Proto {
	case 1:
		return balanced(2, 0x4000+p.Flow, func(two []byte) []byte { return icmp(8, 0, 0x5253, p.Tag, two) })
	case 17:
		return balanced(6, p.Tag+1, func(two []byte) []byte { return udp(p.Src, p.Dst, 20000+p.Flow, 33434, two) })
	}
	return tcp(p.Src, p.Dst, api.Segment{SrcPort: 20000 + p.Flow, DstPort: 80, Seq: p.Tag, Flags: api.FlagSyn, Window: 1024})
}

// built returns the packet of a probe.
func built(p api.Probe) []byte {
	return packed(api.Header{ID: p.Tag, TTL: p.TTL, Proto: p.Proto, Keep: true, Src: p.Src, Dst: p.Dst}, content(p))
}

// of returns a probe.
func of(proto, flow, tag, ttl int) api.Probe {
	return api.Probe{Src: here, Dst: there, Proto: proto, Flow: flow, Tag: tag, TTL: ttl}
}

// notice returns a packet with an ICMP error.
func notice(h api.Header, kind, code int, quote []byte) []byte {
	h.Proto = 1
	return packed(h, icmp(kind, code, 0, 0, quote))
}

// bytes returns so many bytes that differ.
func bytes(length int) []byte {
	b := make([]byte, length)
	for i := range b {
		b[i] = byte(i*37 + i>>8 + 1)
	}
	return b
}

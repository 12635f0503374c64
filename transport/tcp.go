package transport

import (
	"slices"

	"routescope/api"
)

const (
	// tcpSize is the number of bytes of a segment before its data.
	tcpSize = 20
	// tcpOffset is the byte with the length of a header without options: five words of 4 bytes.
	tcpOffset = 0x50
	// tcpSumAt is the place of the checksum of a segment.
	tcpSumAt = 16
)

// EncodeTCP returns the bytes of a segment, or api.ErrRange or api.ErrLimit.
func EncodeTCP(src, dst api.Address, s api.Segment) ([]byte, api.Errno) {
	if !fit(2, s.SrcPort, s.DstPort, s.Window) || !fit(4, s.Seq, s.Ack) || !fit(1, s.Flags) {
		return nil, api.ErrRange
	}
	if len(s.Data) > most-tcpSize {
		return nil, api.ErrLimit
	}
	b := put(nil, 2, s.SrcPort, s.DstPort)
	b = put(b, 4, s.Seq, s.Ack)
	b = put(b, 1, tcpOffset, s.Flags)
	b = put(b, 2, s.Window)
	return summed(b, slices.Concat(put(nil, 2, 0), s.Data), tcpSum(src, dst)), api.OK
}

// DecodeTCP returns the segment of bytes, or api.ErrShort, api.ErrForm, api.ErrLimit or api.ErrSum.
func DecodeTCP(src, dst api.Address, b []byte) (api.Segment, api.Errno) {
	if len(b) < tcpSize {
		return api.Segment{}, api.ErrShort
	}
	if get(b, 12, 1) != tcpOffset || get(b, 18, 2) != 0 {
		return api.Segment{}, api.ErrForm
	}
	if e := check(b, tcpSumAt, tcpSum(src, dst)); e != api.OK {
		return api.Segment{}, e
	}
	return api.Segment{
		SrcPort: get(b, 0, 2), DstPort: get(b, 2, 2),
		Seq: get(b, 4, 4), Ack: get(b, 8, 4),
		Flags: get(b, 13, 1), Window: get(b, 14, 2),
		Data: slices.Clone(b[tcpSize:]),
	}, api.OK
}

// tcpSum returns what computes the checksum of a segment between two addresses.
func tcpSum(src, dst api.Address) func(b []byte) int {
	return func(b []byte) int { return Pseudo(src, dst, api.ProtoTCP, b) }
}

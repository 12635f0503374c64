package transport

import (
	"slices"

	"routescope/api"
)

const (
	// udpSize is the number of bytes of a datagram before its data.
	udpSize = 8
	// udpSumAt is the place of the checksum of a datagram.
	udpSumAt = 6
)

// EncodeUDP returns the bytes of a datagram, or api.ErrRange or api.ErrLimit.
func EncodeUDP(src, dst api.Address, d api.Datagram) ([]byte, api.Errno) {
	if !fit(2, d.SrcPort, d.DstPort) {
		return nil, api.ErrRange
	}
	if len(d.Data) > most-udpSize {
		return nil, api.ErrLimit
	}
	return summed(put(nil, 2, d.SrcPort, d.DstPort, udpSize+len(d.Data)), d.Data, udpSum(src, dst)), api.OK
}

// DecodeUDP returns the datagram of bytes, or api.ErrShort, api.ErrForm, api.ErrLimit or api.ErrSum.
func DecodeUDP(src, dst api.Address, b []byte) (api.Datagram, api.Errno) {
	if len(b) < udpSize {
		return api.Datagram{}, api.ErrShort
	}
	if get(b, 4, 2) != len(b) {
		return api.Datagram{}, api.ErrForm
	}
	if e := check(b, udpSumAt, udpSum(src, dst)); e != api.OK {
		return api.Datagram{}, e
	}
	return api.Datagram{SrcPort: get(b, 0, 2), DstPort: get(b, 2, 2), Data: slices.Clone(b[udpSize:])}, api.OK
}

// udpSum returns what computes the checksum of a datagram between two addresses.
func udpSum(src, dst api.Address) func(b []byte) int {
	return func(b []byte) int {
		sum := Pseudo(src, dst, api.ProtoUDP, b)
		if sum == 0 { // on the wire, 0 says that there is no checksum
			return 65535
		}
		return sum
	}
}

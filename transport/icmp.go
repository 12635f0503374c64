package transport

import (
	"slices"

	"routescope/api"
	"routescope/wire"
)

const (
	// icmpSize is the number of bytes of an ICMP message before its data or its quote.
	icmpSize = 8
	// icmpSumAt is the place of the checksum of an ICMP message.
	icmpSumAt = 2
	// quoteSize is the number of bytes that a quote has at least.
	quoteSize = 28
)

// EncodeEcho returns the bytes of an echo, or api.ErrRange or api.ErrLimit.
func EncodeEcho(e api.Echo) ([]byte, api.Errno) {
	if !fit(2, e.Ident, e.Seq) {
		return nil, api.ErrRange
	}
	if len(e.Data) > most-icmpSize {
		return nil, api.ErrLimit
	}
	kind := api.EchoRequest
	if e.Reply {
		kind = api.EchoReply
	}
	return summed(put(nil, 1, kind, 0), slices.Concat(put(nil, 2, e.Ident, e.Seq), e.Data), wire.Checksum), api.OK
}

// DecodeEcho returns the echo of bytes, or api.ErrShort, api.ErrForm, api.ErrLimit or api.ErrSum.
func DecodeEcho(b []byte) (api.Echo, api.Errno) {
	if len(b) < icmpSize {
		return api.Echo{}, api.ErrShort
	}
	kind := get(b, 0, 1)
	if kind != api.EchoRequest && kind != api.EchoReply || get(b, 1, 1) != 0 {
		return api.Echo{}, api.ErrForm
	}
	if e := check(b, icmpSumAt, wire.Checksum); e != api.OK {
		return api.Echo{}, e
	}
	return api.Echo{Reply: kind == api.EchoReply, Ident: get(b, 4, 2), Seq: get(b, 6, 2), Data: slices.Clone(b[icmpSize:])}, api.OK
}

// EncodeNotice returns the bytes of a notice, or api.ErrRange, api.ErrShort or api.ErrLimit.
func EncodeNotice(n api.Notice) ([]byte, api.Errno) {
	switch {
	case !noticeType(n.Type) || !fit(1, n.Code):
		return nil, api.ErrRange
	case len(n.Quote) < quoteSize:
		return nil, api.ErrShort
	case len(n.Quote) > most-icmpSize:
		return nil, api.ErrLimit
	}
	return summed(put(nil, 1, n.Type, n.Code), slices.Concat(put(nil, 4, 0), n.Quote), wire.Checksum), api.OK
}

// DecodeNotice returns the notice of bytes, or api.ErrShort, api.ErrForm, api.ErrLimit or api.ErrSum.
func DecodeNotice(b []byte) (api.Notice, api.Errno) {
	if len(b) < icmpSize+quoteSize {
		return api.Notice{}, api.ErrShort
	}
	n := api.Notice{Type: get(b, 0, 1), Code: get(b, 1, 1)}
	if !noticeType(n.Type) || get(b, 4, 4) != 0 {
		return api.Notice{}, api.ErrForm
	}
	if e := check(b, icmpSumAt, wire.Checksum); e != api.OK {
		return api.Notice{}, e
	}
	n.Quote = slices.Clone(b[icmpSize:])
	return n, api.OK
}

// noticeType reports whether a notice may have this type.
func noticeType(n int) bool { return n == api.Unreachable || n == api.TimeExceeded }

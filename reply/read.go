package reply

import (
	"routescope/api"
	"routescope/ipv4"
	"routescope/probe"
	"routescope/transport"
	"routescope/wire"
)

const (
	// firstPort is the port from which the probes of the flow 0 are sent.
	firstPort = 20000
	// tcpPort is the port to which TCP probes are sent.
	tcpPort = 80
	// ident is the Ident of the echo requests of probes.
	ident = 0x5253
	// requestSum and replySum are the checksums of the echo request of the flow 0 and of its reply: the type is 8 in one, and 0 in the other.
	requestSum = 0x4000
	replySum   = 0x4800
	// echoData is the number of bytes of data of the echo requests of probes.
	echoData = 2
	// headerSize is the number of bytes of an IPv4 header.
	headerSize = 20
	// sumAt is the place of the checksum of an ICMP message.
	sumAt = 2
)

// Read returns the probe that the packet b answers, and the answer, or api.ErrForeign.
func Read(b []byte) (api.Probe, api.Answer, api.Errno) {
	packet, e := ipv4.Decode(b)
	if e != api.OK {
		return api.Probe{}, api.Answer{}, api.ErrForeign
	}
	r := reading{packet: packet}
	switch {
	case r.notice():
	case r.echo():
	case r.reset():
	default:
		return api.Probe{}, api.Answer{}, api.ErrForeign
	}
	return r.probe, r.answer, api.OK
}

// reading is a packet, and what it is read as: its methods report whether it is an answer of their kind, and keep the probe and the answer only then.
type reading struct {
	packet api.Packet
	probe  api.Probe
	answer api.Answer
}

// notice reads an ICMP error.
func (r *reading) notice() bool {
	n, e := transport.DecodeNotice(r.packet.Data)
	if r.packet.Header.Proto != api.ProtoICMP || e != api.OK {
		return false
	}
	p, ok := quoted(n.Quote)
	if !ok || p.Src != r.packet.Header.Dst {
		return false
	}
	kind := api.AnswerUnreachable
	if n.Type == api.TimeExceeded {
		kind = api.AnswerExceeded
	} else if n.Code == api.CodePort {
		kind = api.AnswerPort
	}
	r.keep(p, api.Answer{Kind: kind, Code: n.Code, Quoted: p.TTL})
	return true
}

// echo reads an echo reply. The data may be any, because the data 0 has the same checksum as 65535.
func (r *reading) echo() bool {
	echo, e := transport.DecodeEcho(r.packet.Data)
	if r.packet.Header.Proto != api.ProtoICMP || e != api.OK || !echo.Reply || echo.Ident != ident || len(echo.Data) != echoData {
		return false
	}
	return r.received(get(r.packet.Data, sumAt)-replySum, echo.Seq, api.AnswerEcho)
}

// reset reads a reset of a host.
func (r *reading) reset() bool {
	h := r.packet.Header
	s, e := transport.DecodeTCP(h.Src, h.Dst, r.packet.Data)
	if h.Proto != api.ProtoTCP || e != api.OK || len(s.Data) != 0 {
		return false
	}
	if s.SrcPort != tcpPort || s.Seq != 0 || s.Flags != resetFlags || s.Window != 0 {
		return false
	}
	return r.received(s.DstPort-firstPort, s.Ack-1, api.AnswerReset)
}

// received reads an answer of the host to which a probe of this flow and tag was sent, without a quote; it is none if there are no such probes.
func (r *reading) received(flow, tag, kind int) bool {
	h := r.packet.Header
	// The TTL is not in the answer; any one will do.
	p := api.Probe{Src: h.Dst, Dst: h.Src, Proto: h.Proto, Flow: flow, Tag: tag, TTL: 1}
	if probe.Check(p) != api.OK {
		return false
	}
	r.keep(p, api.Answer{Kind: kind})
	return true
}

// keep keeps a probe and its answer, with what the header of the packet says.
func (r *reading) keep(p api.Probe, a api.Answer) {
	p.TTL = 0
	h := r.packet.Header
	a.From, a.Left, a.ID = h.Src, h.TTL, h.ID
	r.probe, r.answer = p, a
}

// quoted returns the probe, with its TTL, of whose packet the quote is the beginning, and whether there is one.
func quoted(quote []byte) (api.Probe, bool) {
	h, _, e := ipv4.Peek(quote)
	if e != api.OK {
		return api.Probe{}, false
	}
	p := api.Probe{Src: h.Src, Dst: h.Dst, Proto: h.Proto, Flow: get(quote, headerSize) - firstPort, Tag: h.ID, TTL: h.TTL}
	if p.Proto == api.ProtoICMP {
		p.Flow = get(quote, headerSize+sumAt) - requestSum
	}
	// The packet of no other probe can begin like this. A quote of another length is not equal to any beginning.
	b, e := probe.Build(p)
	if e != api.OK || !wire.Equal(b[:quoteSize], quote) {
		return api.Probe{}, false
	}
	return p, true
}

// get returns the number in the 2 bytes of b from the index at on; b is long enough.
func get(b []byte, at int) int {
	n, _ := wire.Get(b, at, 2)
	return n
}

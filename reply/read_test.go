package reply_test

import (
	"encoding/binary"
	"math"
	"slices"
	"testing"

	"routescope/api"
	"routescope/reply"
)

// pairs holds sources and destinations of probes.
var pairs = [][2]api.Address{{here, there}, {there, here}, {here, here}, {1 << 24, 0xDFFFFFFF}, {here, 0}, {here, math.MaxUint32}, {0xAC1F0000, 0x0000FFFE}}

// read reports bytes that are not read as this answer to a probe.
func read(t *testing.T, b []byte, p api.Probe, a api.Answer) {
	t.Helper()
	p.TTL = 0
	if gotP, gotA, e := reply.Read(b); e != api.OK || gotP != p || gotA != a {
		t.Errorf("%x is read as %+v, %+v, %d instead of %+v, %+v", b, gotP, gotA, e, p, a)
	}
}

// foreign reports bytes that are read as an answer.
func foreign(t *testing.T, name string, b []byte) {
	t.Helper()
	if p, a, e := reply.Read(b); e != api.ErrForeign || p != (api.Probe{}) || a != (api.Answer{}) {
		t.Errorf("%s: %x is read as %+v, %+v, %d", name, b, p, a, e)
	}
}

// kindOf returns the kind of answer that a notice is.
func kindOf(kind, code int) int {
	switch {
	case kind == api.TimeExceeded:
		return api.AnswerExceeded
	case code == api.CodePort:
		return api.AnswerPort
	}
	return api.AnswerUnreachable
}

// direct returns what a host answers to a probe of ICMP or TCP, with the data of the probe in an echo reply.
func direct(p api.Probe, h api.Header) []byte {
	h.Src, h.Dst, h.Proto = p.Dst, p.Src, p.Proto
	if p.Proto == 1 {
		return packed(h, icmp(0, 0, 0x5253, p.Tag, content(p)[8:]))
	}
	return packed(h, tcp(p.Dst, p.Src, api.Segment{SrcPort: 80, DstPort: 20000 + p.Flow, Ack: p.Tag + 1, Flags: 20}))
}

// directKind is the kind of the answer of a host to a probe of ICMP or TCP.
func directKind(p api.Probe) int {
	if p.Proto == 1 {
		return api.AnswerEcho
	}
	return api.AnswerReset
}

// back reports answers to a probe that are not read as such: those that are written here, and those of Error and Host.
func back(t *testing.T, p api.Probe, id, left int) {
	t.Helper()
	b, h := built(p), api.Header{ID: id, TTL: left, Src: router, Dst: p.Src}
	for _, x := range [][2]int{{11, 0}, {3, 3}, {3, 1}} {
		want := api.Answer{From: router, Kind: kindOf(x[0], x[1]), Code: x[1], Left: left, ID: id, Quoted: p.TTL}
		read(t, notice(h, x[0], x[1], b[:28]), p, want)
		got, _ := reply.Error(b, router, x[0], x[1], id, left)
		read(t, got, p, want)
	}
	want := api.Answer{From: p.Dst, Kind: api.AnswerPort, Code: api.CodePort, Left: left, ID: id, Quoted: p.TTL}
	if p.Proto != 17 {
		want = api.Answer{From: p.Dst, Kind: directKind(p), Left: left, ID: id}
		read(t, direct(p, h), p, want)
	}
	got, _ := reply.Host(b, p.Dst, id, left)
	read(t, got, p, want)
}

// P8.3

func TestRead(t *testing.T) {
	for _, proto := range protocols {
		for _, pair := range pairs {
			for _, flow := range []int{0, 1, 255, 256, 512, 1022, 1023} {
				for i, tag := range []int{0, 1, 255, 256, 777, 32767, 32768, 65279, 65280, 65533, 65534} {
					p := api.Probe{Src: pair[0], Dst: pair[1], Proto: proto, Flow: flow, Tag: tag, TTL: 1 + (flow*7+i*31)%255}
					back(t, p, ids[i%len(ids)], ttls[i%len(ttls)])
				}
			}
		}
		for ttl := 1; ttl < 256; ttl++ {
			back(t, of(proto, 9, 777, ttl), 256*ttl, 255-ttl)
		}
	}
}

// All flows and all tags come back.
func TestReadAll(t *testing.T) {
	for _, proto := range protocols {
		for flow := range 1024 {
			back(t, of(proto, flow, flow*61, 1+flow%255), flow, flow%256)
		}
		for tag := range 65535 {
			if tag%7 == 0 || tag > 65500 {
				back(t, of(proto, tag%1024, tag, 1+tag%255), tag, tag%256)
			}
		}
	}
}

// All codes come back, and decide the kind.
func TestReadCodes(t *testing.T) {
	for _, proto := range protocols {
		p := of(proto, 9, 777, 64)
		for code := range 256 {
			for _, kind := range []int{3, 11} {
				want := api.Answer{From: router, Kind: kindOf(kind, code), Code: code, Left: 8, ID: 7, Quoted: 64}
				read(t, notice(api.Header{ID: 7, TTL: 8, Src: router, Dst: here}, kind, code, built(p)[:28]), p, want)
			}
		}
	}
}

// Answers come from any address.
func TestReadFrom(t *testing.T) {
	for _, from := range senders {
		for _, proto := range protocols {
			p := of(proto, 9, 777, 64)
			h := api.Header{ID: 7, TTL: 8, Src: from, Dst: here}
			read(t, notice(h, 11, 0, built(p)[:28]), p, api.Answer{From: from, Kind: api.AnswerExceeded, Left: 8, ID: 7, Quoted: 64})
			p.Dst = from
			if proto != 17 {
				read(t, direct(p, h), p, api.Answer{From: from, Kind: directKind(p), Left: 8, ID: 7})
			}
		}
	}
}

// TOS and Keep of an answer do not matter.
func TestReadHeader(t *testing.T) {
	for _, proto := range protocols {
		p := of(proto, 9, 777, 64)
		for tos := range 256 {
			for _, keep := range []bool{false, true} {
				h := api.Header{TOS: tos, Keep: keep, ID: 7, TTL: 8, Src: router, Dst: here}
				read(t, notice(h, 11, 0, built(p)[:28]), p, api.Answer{From: router, Kind: api.AnswerExceeded, Left: 8, ID: 7, Quoted: 64})
				if proto != 17 {
					read(t, direct(p, h), p, api.Answer{From: there, Kind: directKind(p), Left: 8, ID: 7})
				}
			}
		}
	}
}

// Where the data of an echo request is 65535, a reply with the data 0 has the same checksum, and is an answer, too.
func TestReadEchoData(t *testing.T) {
	found := 0
	for tag := range 65535 {
		p := of(1, 3, tag, 7)
		data := content(p)
		if data[8] != 255 || data[9] != 255 {
			continue
		}
		found++
		h, want := api.Header{ID: 7, TTL: 8, Proto: 1, Src: there, Dst: here}, api.Answer{From: there, Kind: api.AnswerEcho, Left: 8, ID: 7}
		for _, two := range [][]byte{{0, 0}, {255, 255}} {
			b := packed(h, icmp(0, 0, 0x5253, tag, two))
			if got := binary.BigEndian.Uint16(b[22:]); got != 0x4803 {
				t.Errorf("the tag %d with %x: the checksum is %x", tag, two, got)
			}
			read(t, b, p, want)
		}
	}
	if found == 0 {
		t.Error("no tag is like this")
	}
}

// The data of an echo reply decides the flow; there are no flows but those from 0 to 1023.
func TestReadEchoFlow(t *testing.T) {
	h := api.Header{ID: 7, TTL: 8, Proto: 1, Src: there, Dst: here}
	for number := range 65536 {
		b := packed(h, icmp(0, 0, 0x5253, 777, numbers(nil, number)))
		if flow := int(binary.BigEndian.Uint16(b[22:])) - 0x4800; flow >= 0 && flow <= 1023 {
			read(t, b, of(1, flow, 777, 0), api.Answer{From: there, Kind: api.AnswerEcho, Left: 8, ID: 7})
		} else {
			foreign(t, "data", b)
		}
	}
}

// echo returns a packet with an echo reply whose checksum, if there are 2 bytes of data or more, is this one.
func echo(ident, seq, checksum, length int) []byte {
	return packed(api.Header{ID: 7, TTL: 8, Proto: 1, Src: there, Dst: here}, balanced(2, checksum, func(two []byte) []byte {
		return icmp(0, 0, ident, seq, append(slices.Clone(two), make([]byte, 8)...)[:length])
	}))
}

func TestReadEchoForeign(t *testing.T) {
	read(t, echo(0x5253, 777, 0x4809, 2), of(1, 9, 777, 0), api.Answer{From: there, Kind: api.AnswerEcho, Left: 8, ID: 7})
	for ident := range 65536 {
		if ident != 0x5253 {
			foreign(t, "Ident", echo(ident, 777, 0x4809, 2))
		}
	}
	for _, length := range []int{0, 1, 3, 4, 8} {
		foreign(t, "length", echo(0x5253, 777, 0x4809, length))
	}
	for _, checksum := range []int{0, 1, 0x47FF, 0x4C00, 0x4000, 0x4009, 0x43FF, 0x5009, 0xC809, 65534} {
		foreign(t, "checksum", echo(0x5253, 777, checksum, 2))
	}
	foreign(t, "the tag 65535", echo(0x5253, 65535, 0x4809, 2))
	foreign(t, "a request", packed(api.Header{TTL: 8, Proto: 1, Src: there, Dst: here}, balanced(2, 0x4809, func(two []byte) []byte { return icmp(8, 0, 0x5253, 777, two) })))
	for code := 1; code < 256; code++ {
		foreign(t, "code", packed(api.Header{TTL: 8, Proto: 1, Src: there, Dst: here}, balanced(2, 0x4809, func(two []byte) []byte { return icmp(0, code, 0x5253, 777, two) })))
	}
}

// reset returns a packet with a segment to here.
func reset(change func(s *api.Segment)) []byte {
	s := api.Segment{SrcPort: 80, DstPort: 20009, Ack: 778, Flags: 20}
	change(&s)
	return packed(api.Header{ID: 7, TTL: 8, Proto: 6, Src: there, Dst: here}, tcp(there, here, s))
}

func TestReadReset(t *testing.T) {
	want := api.Answer{From: there, Kind: api.AnswerReset, Left: 8, ID: 7}
	for port := range 65536 {
		if b := reset(func(s *api.Segment) { s.DstPort = port }); port >= 20000 && port <= 21023 {
			read(t, b, of(6, port-20000, 777, 0), want)
		} else {
			foreign(t, "to port", b)
		}
		if port != 80 {
			foreign(t, "from port", reset(func(s *api.Segment) { s.SrcPort = port }))
		}
		if b := reset(func(s *api.Segment) { s.Ack = port }); port > 0 {
			read(t, b, of(6, 9, port-1, 0), want)
		} else {
			foreign(t, "Ack", b)
		}
	}
}

func TestReadResetForeign(t *testing.T) {
	foreign(t, "ports", reset(func(s *api.Segment) { s.SrcPort, s.DstPort = s.DstPort, s.SrcPort }))
	for _, n := range []int{65536, 65537, 65536 + 778, 1 << 31, 1<<32 - 1} {
		foreign(t, "Ack", reset(func(s *api.Segment) { s.Ack = n }))
	}
	for _, n := range []int{1, 2, 777, 65536, 1 << 31, 1<<32 - 1} {
		foreign(t, "Seq", reset(func(s *api.Segment) { s.Seq = n }))
	}
	for flags := range 256 {
		if flags != 20 {
			foreign(t, "flags", reset(func(s *api.Segment) { s.Flags = flags }))
		}
	}
	for window := 1; window < 65536; window *= 2 {
		foreign(t, "window", reset(func(s *api.Segment) { s.Window = window }))
	}
	for _, length := range []int{1, 2, 3, 8, 1460} {
		foreign(t, "data", reset(func(s *api.Segment) { s.Data = make([]byte, length) }))
	}
}

// quoting returns a packet with a notice to here.
func quoting(quote []byte) []byte {
	return notice(api.Header{ID: 7, TTL: 8, Src: router, Dst: here}, 11, 0, quote)
}

// like returns the probe that a quote names by its places alone.
func like(quote []byte) api.Probe {
	n := func(at int) int { return int(binary.BigEndian.Uint16(quote[at:])) }
	p := api.Probe{Src: api.Address(n(12)<<16 | n(14)), Dst: api.Address(n(16)<<16 | n(18)), Proto: int(quote[9]), Flow: n(20) - 20000, Tag: n(4), TTL: int(quote[8])}
	if p.Proto == 1 {
		p.Flow = n(22) - 0x4000
	}
	return p
}

// fits reports whether a probe was sent by here, and its packet begins with a quote.
func fits(p api.Probe, quote []byte) bool {
	return p.Src == here && slices.Contains(protocols, p.Proto) && p.Flow >= 0 && p.Flow <= 1023 && p.Tag <= 65534 && p.TTL >= 1 && slices.Equal(built(p)[:28], quote)
}

// Every byte of a quote that is changed, with and without the checksum that belongs to the header, makes it the quote of another probe or of none.
func TestReadQuote(t *testing.T) {
	other := 0
	for _, proto := range protocols {
		for _, p := range []api.Probe{of(proto, 9, 777, 64), of(proto, 0, 0, 1), of(proto, 1023, 65534, 255)} {
			whole := built(p)[:28]
			for at := range whole {
				for x := range 256 {
					bare := slices.Clone(whole)
					bare[at] = byte(x)
					for _, quote := range [][]byte{bare, append(summed(bare[:20], 10), bare[20:]...)} {
						if q := like(quote); fits(q, quote) {
							other++
							read(t, quoting(quote), q, api.Answer{From: router, Kind: api.AnswerExceeded, Left: 8, ID: 7, Quoted: q.TTL})
						} else {
							foreign(t, "a byte of the quote", quoting(quote))
						}
					}
				}
			}
		}
	}
	if other < 9*(254+255*4) { // all TTLs and destinations
		t.Errorf("only %d quotes are those of probes", other)
	}
}

// requoted returns a quote of a probe with another header, whose checksum is right.
func requoted(p api.Probe, change func(h *api.Header, length *int)) []byte {
	b := built(p)
	h, length := api.Header{ID: p.Tag, TTL: p.TTL, Proto: p.Proto, Keep: true, Src: p.Src, Dst: p.Dst}, len(b)
	change(&h, &length)
	return append(headed(h, length), b[20:28]...)
}

func TestReadQuoteHeader(t *testing.T) {
	for _, proto := range protocols {
		p := of(proto, 9, 777, 64)
		read(t, quoting(requoted(p, func(*api.Header, *int) {})), p, api.Answer{From: router, Kind: api.AnswerExceeded, Left: 8, ID: 7, Quoted: 64})
		for _, n := range []int{0, 20, 28, 29, 31, 39, 41, 70 - len(built(p)), 1500, 65535} {
			foreign(t, "length", quoting(requoted(p, func(h *api.Header, length *int) { *length = n })))
		}
		for tos := 1; tos < 256; tos++ {
			foreign(t, "TOS", quoting(requoted(p, func(h *api.Header, _ *int) { h.TOS = tos })))
		}
		for _, n := range []int{0, 1, 776, 778, 65535} {
			foreign(t, "ID", quoting(requoted(p, func(h *api.Header, _ *int) { h.ID = n })))
		}
		for n := range 256 {
			if n != proto {
				foreign(t, "protocol", quoting(requoted(p, func(h *api.Header, _ *int) { h.Proto = n })))
				foreign(t, "protocol and length", quoting(requoted(p, func(h *api.Header, length *int) { h.Proto, *length = n, 70-*length })))
			}
		}
		foreign(t, "Keep", quoting(requoted(p, func(h *api.Header, _ *int) { h.Keep = false })))
		foreign(t, "TTL 0", quoting(requoted(p, func(h *api.Header, _ *int) { h.TTL = 0 })))
		for _, src := range []api.Address{0, there, router, here + 1} {
			foreign(t, "source", quoting(requoted(p, func(h *api.Header, _ *int) { h.Src = src })))
			foreign(t, "an answer to somebody else", notice(api.Header{TTL: 8, Src: router, Dst: src}, 11, 0, built(p)[:28]))
		}
	}
}

// The flows and the tag that there are not have no quotes, though all numbers agree with each other.
func TestReadQuoteBeyond(t *testing.T) {
	h := api.Header{ID: 777, TTL: 9, Keep: true, Src: here, Dst: there}
	with := func(proto, length, tag int, data ...int) []byte {
		h.ID, h.Proto = tag, proto
		return quoting(append(headed(h, length), numbers(nil, data...)...))
	}
	quotes := func(flow, tag int) map[int][]byte {
		return map[int][]byte{
			1:  with(1, 30, tag, 0x0800, 0x4000+flow, 0x5253, tag),
			6:  with(6, 40, tag, 20000+flow, 80, 0, tag),
			17: with(17, 30, tag, 20000+flow, 33434, 10, tag+1),
		}
	}
	for _, flow := range []int{-20000, -16384, -1025, -1, 1024, 1025, 2047, 45535} {
		for _, b := range quotes(flow, 777) {
			foreign(t, "another flow", b)
		}
	}
	for _, flow := range []int{0, 9, 1023} {
		for _, b := range quotes(flow, 65535) {
			foreign(t, "the tag 65535", b)
		}
		for proto, b := range quotes(flow, 65534) {
			read(t, b, of(proto, flow, 65534, 0), api.Answer{From: router, Kind: api.AnswerExceeded, Left: 8, ID: 7, Quoted: 9})
		}
	}
}

// A quote is 28 bytes long, neither more nor fewer.
func TestReadQuoteLength(t *testing.T) {
	for _, proto := range protocols {
		b := built(of(proto, 9, 777, 64))
		for length := range len(b) + 1 {
			if length != 28 {
				foreign(t, "length", quoting(b[:length]))
			}
		}
		foreign(t, "zeros behind it", quoting(append(b[:28:28], make([]byte, 100)...)))
	}
}

// changed returns packets with one byte replaced: as it is, and, if it is in the data, with the checksum of ICMP.
func changed(b []byte, at int, x byte) [][]byte {
	c := slices.Clone(b)
	c[at] = x
	if at < 20 {
		return [][]byte{c}
	}
	return [][]byte{c, append(slices.Clone(c[:20]), summed(c[20:], 2)...)}
}

// The types, the zeros and the checksums of notices are those of chapter 6.
func TestReadNotice(t *testing.T) {
	b := quoting(built(of(17, 9, 777, 64))[:28])
	for at := range 28 {
		for x := range 256 {
			for i, c := range changed(b, at, byte(x)) {
				again := i == 1 && (at == 21 || at == 22 || at == 23 || at == 20 && (x == 3 || x == 11))
				if !slices.Equal(c, b) && !again {
					foreign(t, "a byte", c)
				}
			}
		}
	}
}

// Packets that are none of the three, and bytes that are no packets.
func TestReadForeign(t *testing.T) {
	foreign(t, "nothing", nil)
	foreign(t, "zeros", make([]byte, 56))
	foreign(t, "many zeros", make([]byte, 70000))
	h := api.Header{ID: 7, TTL: 8}
	for _, proto := range protocols {
		p := of(proto, 9, 777, 64)
		list := [][]byte{quoting(built(p)[:28])}
		if proto != 17 {
			list = append(list, direct(p, h))
		}
		foreign(t, "a probe", built(p))
		for _, b := range list {
			for length := range b {
				foreign(t, "the beginning", b[:length])
			}
			foreign(t, "a byte more", append(slices.Clone(b), 0))
			foreign(t, "twice", slices.Concat(b, b))
			for at := range b {
				for by := 1; by < 256; by++ {
					c := slices.Clone(b)
					c[at] += byte(by)
					foreign(t, "a byte is changed", c)
				}
			}
			for other := range 256 {
				if other != int(b[9]) {
					c := slices.Clone(b)
					c[9] = byte(other)
					foreign(t, "another protocol", append(summed(c[:20], 10), c[20:]...))
				}
			}
		}
	}
}

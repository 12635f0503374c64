package reply_test

import (
	"math"
	"slices"
	"testing"

	"routescope/api"
	"routescope/reply"
)

// outside holds numbers that are not from 0 to 255.
var outside = []int{math.MinInt, -1 << 32, -256, -255, -1, 256, 257, 511, 512, 65535, 65536, 1 << 32, 1<<32 + 1, math.MaxInt}

// beyond holds numbers that are not from 0 to 65535.
var beyond = []int{math.MinInt, -1 << 32, -65536, -65535, -1, 65536, 65537, 131071, 1 << 32, 1<<32 + 1, math.MaxInt}

// ids and ttls hold edges and some numbers between them.
var (
	ids  = []int{0, 1, 255, 256, 777, 32767, 32768, 65534, 65535}
	ttls = []int{0, 1, 2, 64, 127, 128, 254, 255}
)

// senders holds addresses from which answers are sent: they need not be such as may be answered.
var senders = []api.Address{router, here, there, 0, 1, 0x7F000001, 0xA9FE0001, 0xE0000001, math.MaxUint32}

// sample is a packet, and whether it is answerable.
type sample struct {
	name string
	b    []byte
	ok   bool
}

// lengths returns packets with data of many lengths.
func lengths() []sample {
	var list []sample
	for _, proto := range []int{0, 1, 2, 6, 17, 47, 255} {
		for _, length := range []int{0, 1, 4, 6, 7, 8, 9, 13, 14, 15, 19, 20, 21, 1479, 1480} {
			data := make([]byte, length)
			if length > 0 {
				data[0] = 8
			}
			h := api.Header{TTL: 9, Proto: proto, Src: here, Dst: there}
			list = append(list, sample{"length", packed(h, data), length >= 8})
		}
	}
	return list
}

// sources returns packets from addresses at the edges of special prefixes.
func sources() []sample {
	var list []sample
	for _, x := range []struct {
		low, high api.Address
		ok        bool
	}{
		{0, 0x00FFFFFF, false}, {0x01000000, 0x09FFFFFF, true}, {0x0A000000, 0x0AFFFFFF, true}, {0x0B000000, 0x7EFFFFFF, true},
		{0x7F000000, 0x7FFFFFFF, false}, {0x80000000, 0xA9FDFFFF, true}, {0xA9FE0000, 0xA9FEFFFF, false}, {0xA9FF0000, 0xAC0FFFFF, true},
		{0xAC100000, 0xAC1FFFFF, true}, {0xAC200000, 0xC0A7FFFF, true}, {0xC0A80000, 0xC0A8FFFF, true}, {0xC0A90000, 0xDFFFFFFF, true},
		{0xE0000000, 0xEFFFFFFF, false}, {0xF0000000, 0xFFFFFFFF, false},
	} {
		for _, a := range []api.Address{x.low, x.low + 1, x.low + (x.high-x.low)/2, x.high - 1, x.high} {
			for _, dst := range []api.Address{there, 0, math.MaxUint32, a} {
				list = append(list, sample{"source", packed(api.Header{TTL: 9, Proto: 17, Src: a, Dst: dst}, make([]byte, 8)), x.ok})
			}
		}
	}
	return list
}

// contents returns packets with all types of ICMP, and all flags of TCP, and those places in others.
func contents() []sample {
	var list []sample
	for x := range 256 {
		for _, proto := range []int{0, 1, 2, 5, 6, 7, 17, 255} {
			for _, length := range []int{8, 13, 14, 20, 40} {
				kind, flags := make([]byte, length), make([]byte, length)
				kind[0], flags[0] = byte(x), 8
				if length > 13 {
					flags[13] = byte(x)
				}
				h := api.Header{TTL: 9, Proto: proto, Src: here, Dst: there}
				list = append(list, sample{"type", packed(h, kind), proto != 1 || x == 8})
				list = append(list, sample{"flags", packed(h, flags), proto != 6 || length < 14 || x&4 == 0})
			}
		}
	}
	// No other byte of a segment is looked at.
	for at := range 40 {
		data := make([]byte, 40)
		data[at] = 4
		list = append(list, sample{"a byte", packed(api.Header{TTL: 9, Proto: 6, Src: here, Dst: there}, data), at != 13})
	}
	return list
}

// headers returns packets whose headers differ, and bytes that are no packets.
func headers() []sample {
	var list []sample
	for _, h := range []api.Header{{}, {TOS: 255, ID: 65535, TTL: 255, Keep: true}, {TTL: 1}, {Keep: true}, {TOS: 7}} {
		h.Proto, h.Src, h.Dst = 17, here, there
		list = append(list, sample{"header", packed(h, bytes(8)), true})
	}
	for _, proto := range protocols {
		b := built(of(proto, 9, 777, 64))
		for length := range b {
			list = append(list, sample{"the beginning", b[:length], false})
		}
		for at := range 20 {
			for _, by := range []byte{1, 128, 255} {
				c := slices.Clone(b)
				c[at] += by
				list = append(list, sample{"a byte of the header", c, false})
			}
		}
		list = append(list, sample{"probe", b, true}, sample{"a byte more", append(slices.Clone(b), 0), false})
	}
	h := api.Header{TTL: 9, Proto: 17, Src: here, Dst: there}
	return append(list, sample{"nothing", nil, false}, sample{"zeros", make([]byte, 28), false}, sample{"too long", packed(h, make([]byte, 1481)), false}, sample{"longest", packed(h, make([]byte, 1480)), true})
}

// samples returns packets that are answerable, and others.
func samples() []sample {
	return slices.Concat(lengths(), sources(), contents(), headers())
}

// none reports an answer with an error, or another error than the expected one.
func none(t *testing.T, name string, b []byte, e, want api.Errno) {
	t.Helper()
	if e != want || len(b) != 0 {
		t.Errorf("%s: %x, %d instead of %d", name, b, e, want)
	}
}

// P8.1

// sent reports an error message that is not as it is written number by number.
func sent(t *testing.T, b []byte, from api.Address, kind, code, id, ttl int) {
	t.Helper()
	h := api.Header{ID: id, TTL: ttl, Src: from, Dst: api.Address(b[12])<<24 | api.Address(b[13])<<16 | api.Address(b[14])<<8 | api.Address(b[15])}
	got, e := reply.Error(b, from, kind, code, id, ttl)
	if want := notice(h, kind, code, b[:28]); e != api.OK || !slices.Equal(got, want) || len(got) != 56 {
		t.Errorf("Error of %.28x from %x with %d, %d, %d, %d: %x, %d instead of %x", b, from, kind, code, id, ttl, got, e, want)
	}
}

func TestError(t *testing.T) {
	for _, proto := range protocols {
		b := built(of(proto, 9, 777, 64))
		for _, kind := range []int{api.TimeExceeded, api.Unreachable} {
			for code := range 256 {
				sent(t, b, router, kind, code, code*257, 255-code)
			}
			for _, id := range ids {
				for _, ttl := range ttls {
					sent(t, b, router, kind, 0, id, ttl)
				}
			}
			for _, from := range senders {
				sent(t, b, from, kind, 1, 2, 3)
			}
		}
	}
}

// A message that is written down here.
func TestErrorExample(t *testing.T) {
	b := built(api.Probe{Src: 0x0A000001, Dst: 0x0A000002, Proto: 17, TTL: 1})
	want := []byte{
		0x45, 0, 0, 56, 0, 77, 0, 0, 250, 1, 0xAC, 0x6E, 10, 0, 0, 9, 10, 0, 0, 1,
		11, 0, 0x24, 0x3A, 0, 0, 0, 0,
		0x45, 0, 0, 30, 0, 0, 0x40, 0, 1, 17, 0x65, 0xCD, 10, 0, 0, 1, 10, 0, 0, 2,
		0x4E, 0x20, 0x82, 0x9A, 0, 10, 0, 1,
	}
	if got, e := reply.Error(b, 0x0A000009, api.TimeExceeded, 0, 77, 250); e != api.OK || !slices.Equal(got, want) {
		t.Errorf("%x, %d", got, e)
	}
}

func TestErrorAnswerable(t *testing.T) {
	for _, x := range samples() {
		if x.ok {
			sent(t, x.b, router, api.Unreachable, 1, 2, 3)
			continue
		}
		got, e := reply.Error(x.b, router, api.Unreachable, 1, 2, 3)
		none(t, x.name, got, e, api.ErrForeign)
	}
}

// Numbers out of range are refused first, whatever the bytes are.
func TestErrorRange(t *testing.T) {
	for _, b := range [][]byte{nil, built(of(17, 9, 777, 64)), make([]byte, 28)} {
		refused := func(kind, code, id, ttl int) {
			t.Helper()
			got, e := reply.Error(b, router, kind, code, id, ttl)
			none(t, "a number", got, e, api.ErrRange)
		}
		for kind := range 256 {
			if kind != api.TimeExceeded && kind != api.Unreachable {
				refused(kind, 0, 0, 1)
			}
		}
		for _, n := range append(outside, 256+3, 256+11, -3, -11) {
			refused(n, 0, 0, 1)
		}
		for _, kind := range []int{api.TimeExceeded, api.Unreachable} {
			for _, n := range outside {
				refused(kind, n, 0, 1)
				refused(kind, 0, 0, n)
			}
			for _, n := range beyond {
				refused(kind, 0, n, 1)
			}
		}
	}
}

// P8.2

// answer reports what a host answers if it is not the expected packet.
func answer(t *testing.T, b []byte, from api.Address, id, ttl int, want []byte) {
	t.Helper()
	if got, e := reply.Host(b, from, id, ttl); e != api.OK || !slices.Equal(got, want) {
		t.Errorf("Host of %.48x from %x with %d, %d: %.60x, %d instead of %.60x", b, from, id, ttl, got, e, want)
	}
}

// silent reports that a host answers to bytes.
func silent(t *testing.T, name string, b []byte) {
	t.Helper()
	got, e := reply.Host(b, there, 5, 6)
	none(t, name, got, e, api.ErrForeign)
}

func TestHostEcho(t *testing.T) {
	for _, h := range []api.Header{{}, {TOS: 255, ID: 65535, TTL: 255, Keep: true}, {TTL: 1, Keep: true}} {
		h.Proto, h.Src, h.Dst = 1, here, there
		for _, ident := range []int{0, 1, 0x5253, 32768, 65535} {
			for _, seq := range []int{0, 1, 777, 65535} {
				for _, length := range []int{0, 1, 2, 3, 56, 1471, 1472} {
					want := packed(api.Header{ID: 9, TTL: 60, Proto: 1, Src: there, Dst: here}, icmp(0, 0, ident, seq, bytes(length)))
					answer(t, packed(h, icmp(8, 0, ident, seq, bytes(length))), there, 9, 60, want)
				}
			}
		}
	}
}

func TestHostUDP(t *testing.T) {
	for _, ports := range [][2]int{{0, 0}, {1, 2}, {20000, 33434}, {65535, 65535}, {53, 80}} {
		for _, length := range []int{0, 1, 2, 3, 8, 1471, 1472} {
			for _, h := range []api.Header{{}, {TOS: 255, ID: 65535, TTL: 255, Keep: true}} {
				h.Proto, h.Src, h.Dst = 17, here, there
				b := packed(h, udp(here, there, ports[0], ports[1], bytes(length)))
				answer(t, b, there, 9, 60, notice(api.Header{ID: 9, TTL: 60, Src: there, Dst: here}, 3, 3, b[:28]))
			}
		}
	}
}

// segment returns a packet with a TCP segment.
func segment(s api.Segment) []byte {
	return packed(api.Header{TTL: 9, Proto: 6, Src: here, Dst: there}, tcp(here, there, s))
}

// refusal returns the answer to a segment.
func refusal(s api.Segment) []byte {
	reset := api.Segment{SrcPort: s.DstPort, DstPort: s.SrcPort, Ack: (s.Seq + 1) % (1 << 32), Flags: 20}
	return packed(api.Header{ID: 9, TTL: 60, Proto: 6, Src: there, Dst: here}, tcp(there, here, reset))
}

func TestHostTCP(t *testing.T) {
	for _, seq := range []int{0, 1, 65534, 65535, 65536, 1<<31 - 1, 1 << 31, 1<<32 - 2, 1<<32 - 1} {
		for _, ports := range [][2]int{{0, 0}, {0, 65535}, {20000, 80}, {65535, 1}} {
			for _, length := range []int{0, 1, 2, 1459, 1460} {
				s := api.Segment{SrcPort: ports[0], DstPort: ports[1], Seq: seq, Ack: 1<<32 - 1 - seq, Flags: 2, Window: 1024, Data: bytes(length)}
				answer(t, segment(s), there, 9, 60, refusal(s))
			}
		}
	}
	for flags := range 256 {
		s := api.Segment{SrcPort: 5, DstPort: 6, Seq: 7, Ack: 8, Flags: flags, Window: 9}
		if flags&2 != 0 && flags&4 == 0 {
			answer(t, segment(s), there, 9, 60, refusal(s))
		} else {
			silent(t, "flags", segment(s))
		}
	}
}

// A host answers from any address, whatever the destination of the packet is, and with any identifier and TTL.
func TestHostFrom(t *testing.T) {
	s := api.Segment{SrcPort: 20009, DstPort: 80, Seq: 777, Flags: 2, Window: 1024}
	for _, from := range senders {
		for _, id := range ids {
			for _, ttl := range ttls {
				h := api.Header{ID: id, TTL: ttl, Src: from, Dst: here}
				echo, datagram := built(of(1, 9, 777, 64)), built(of(17, 9, 777, 64))
				answer(t, datagram, from, id, ttl, notice(h, 3, 3, datagram[:28]))
				h.Proto = 1
				answer(t, echo, from, id, ttl, packed(h, icmp(0, 0, 0x5253, 777, echo[28:])))
				h.Proto = 6
				answer(t, segment(s), from, id, ttl, packed(h, tcp(from, here, api.Segment{SrcPort: 80, DstPort: 20009, Ack: 778, Flags: 20})))
			}
		}
	}
}

// Answers that are written down here.
func TestHostExamples(t *testing.T) {
	for _, x := range []struct {
		proto int
		want  []byte
	}{
		{1, []byte{
			0x45, 0, 0, 30, 0, 9, 0, 0, 60, 1, 0x6A, 0xD4, 10, 0, 0, 2, 10, 0, 0, 1,
			0, 0, 0x48, 0, 0x52, 0x53, 0, 0, 0x65, 0xAC,
		}},
		{6, []byte{
			0x45, 0, 0, 40, 0, 9, 0, 0, 60, 6, 0x6A, 0xC5, 10, 0, 0, 2, 10, 0, 0, 1,
			0, 80, 0x4E, 0x20, 0, 0, 0, 0, 0, 0, 0, 1, 0x50, 0x14, 0, 0, 0x4D, 0x5D, 0, 0,
		}},
	} {
		b := built(api.Probe{Src: 0x0A000001, Dst: 0x0A000002, Proto: x.proto, TTL: 1})
		answer(t, b, 0x0A000002, 9, 60, x.want)
	}
}

// What is not answerable is not answered, though its data is an echo request, a datagram or a segment.
func TestHostAnswerable(t *testing.T) {
	for _, x := range sources() {
		src := api.Address(x.b[12])<<24 | api.Address(x.b[13])<<16 | api.Address(x.b[14])<<8 | api.Address(x.b[15])
		for _, proto := range protocols {
			p := of(proto, 9, 777, 64)
			p.Src = src
			if got, e := reply.Host(built(p), there, 5, 6); (e == api.OK) != x.ok || !x.ok && (e != api.ErrForeign || len(got) != 0) {
				t.Errorf("%d from %x: %x, %d", proto, src, got, e)
			}
		}
	}
	for _, x := range slices.Concat(lengths(), contents(), headers()) {
		if !x.ok {
			silent(t, x.name, x.b)
		}
	}
}

// Packets that are answerable, but none of the three.
func TestHostForeign(t *testing.T) {
	for _, proto := range protocols {
		data := content(of(proto, 9, 777, 64))
		for other := range 256 {
			if other != proto {
				silent(t, "another protocol", packed(api.Header{TTL: 9, Proto: other, Src: here, Dst: there}, data))
			}
		}
		h := api.Header{TTL: 9, Proto: proto, Src: here, Dst: there}
		for at := range data {
			for x := range 256 {
				if c := slices.Clone(data); c[at] != byte(x) {
					c[at] = byte(x)
					silent(t, "a byte is changed", packed(h, c))
				}
			}
		}
		for length := range data {
			silent(t, "the beginning", packed(h, data[:length]))
		}
		if proto != 1 {
			silent(t, "a byte more", packed(h, append(slices.Clone(data), 1)))
			silent(t, "another source", packed(api.Header{TTL: 9, Proto: proto, Src: here + 1, Dst: there}, data))
			silent(t, "another destination", packed(api.Header{TTL: 9, Proto: proto, Src: here, Dst: there + 1}, data))
		}
	}
}

// Requests with other codes, replies, options of TCP, and wrong lengths of UDP are none, though their checksums are right.
func TestHostForm(t *testing.T) {
	h := api.Header{TTL: 9, Proto: 1, Src: here, Dst: there}
	for code := 1; code < 256; code++ {
		silent(t, "code", packed(h, icmp(8, code, 1, 2, bytes(9))))
	}
	for kind := range 256 {
		if kind != 8 {
			silent(t, "type", packed(h, icmp(kind, 0, 0, 0, bytes(28))))
		}
	}
	h.Proto = 17
	for _, length := range []int{0, 7, 8, 9, 11, 65535} {
		data := udp(here, there, 1, 2, bytes(2))
		data[4], data[5] = byte(length>>8), byte(length)
		silent(t, "length", packed(h, summed(data, 6, pseudo(here, there, 17, 10)...)))
	}
	silent(t, "no checksum", packed(h, numbers(nil, 1, 2, 8, 0)))
	h.Proto = 6
	for _, offset := range []byte{0, 0x40, 0x51, 0x60, 0xF0} {
		data := tcp(here, there, api.Segment{Flags: 2, Data: bytes(40)})
		data[12] = offset
		silent(t, "offset", packed(h, summed(data, 16, pseudo(here, there, 6, 60)...)))
	}
}

// Numbers out of range are refused first, whatever the bytes are.
func TestHostRange(t *testing.T) {
	list := [][]byte{nil, make([]byte, 28), segment(api.Segment{Flags: 4})}
	for _, proto := range protocols {
		list = append(list, built(of(proto, 9, 777, 64)))
	}
	for _, b := range list {
		for _, n := range beyond {
			got, e := reply.Host(b, there, n, 1)
			none(t, "the identifier", got, e, api.ErrRange)
		}
		for _, n := range outside {
			got, e := reply.Host(b, there, 0, n)
			none(t, "the TTL", got, e, api.ErrRange)
		}
	}
}

// P8.1 and P8.2

// No answer is answered.
func TestNoAnswerIsAnswered(t *testing.T) {
	for _, x := range samples() {
		for _, first := range answers(x.b) {
			if second := answers(first); len(second) != 0 {
				t.Errorf("%s: %x is answered: %x", x.name, first, second)
			}
		}
	}
}

// answers returns all answers to bytes.
func answers(b []byte) [][]byte {
	var list [][]byte
	add := func(got []byte, e api.Errno) {
		if e == api.OK {
			list = append(list, got)
		}
	}
	add(reply.Error(b, router, api.TimeExceeded, 0, 1, 2))
	add(reply.Error(b, router, api.Unreachable, 1, 1, 2))
	add(reply.Host(b, router, 1, 2))
	return list
}

// Bytes, with their spare capacity, stay as they are, also when answers to them are overwritten.
func TestMemory(t *testing.T) {
	list := [][]byte{segment(api.Segment{Flags: 2, Data: bytes(50)})}
	for _, proto := range protocols {
		list = append(list, built(of(proto, 9, 777, 64)))
	}
	for _, x := range list {
		all := append(slices.Clone(x), bytes(2000)...)
		before := slices.Clone(all)
		for _, got := range answers(all[:len(x)]) {
			reply.Read(got)
			for i := range got[:cap(got)] {
				got[:cap(got)][i] ^= 0xFF
			}
		}
		reply.Read(all[:len(x)])
		if !slices.Equal(all, before) {
			t.Errorf("%x is modified: %x", before[:60], all[:60])
		}
	}
}

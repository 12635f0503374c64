package probe_test

import (
	"encoding/binary"
	"math"
	"slices"
	"strconv"
	"testing"

	"routescope/api"
	"routescope/ipv4"
	"routescope/probe"
	"routescope/transport"
)

const (
	here  = api.Address(0x0A0B0C0D)
	there = api.Address(0xC0A8FE02)
)

// protocols holds those of probes.
var protocols = []int{1, 6, 17}

// pairs holds sources and destinations.
var pairs = [][2]api.Address{
	{here, there}, {there, here}, {here, here}, {0, 0}, {0, 1}, {math.MaxUint32, math.MaxUint32}, {math.MaxUint32, 0}, {0x7F000001, 0xE0000001}, {0xFFFF0000, 0x0000FFFE},
}

// flows and tags hold edges and some numbers between them.
var (
	flows = []int{0, 1, 2, 3, 254, 255, 256, 511, 512, 513, 777, 1021, 1022, 1023}
	tags  = []int{0, 1, 2, 127, 128, 255, 256, 257, 1000, 0x1234, 32767, 32768, 65279, 65280, 65532, 65533, 65534}
	ttls  = []int{1, 2, 64, 127, 128, 254, 255}
)

// none is what comes with an error.
var none api.Probe

// of returns a probe.
func of(proto, flow, tag, ttl int) api.Probe {
	return api.Probe{Src: here, Dst: there, Proto: proto, Flow: flow, Tag: tag, TTL: ttl}
}

// samples returns probes at the edges of all numbers.
func samples() []api.Probe {
	var list []api.Probe
	for _, proto := range protocols {
		for _, pair := range pairs {
			for _, flow := range flows {
				for i, tag := range tags {
					list = append(list, api.Probe{Src: pair[0], Dst: pair[1], Proto: proto, Flow: flow, Tag: tag, TTL: ttls[(i+flow)%len(ttls)]})
				}
			}
		}
	}
	return list
}

// sum returns the one's complement sum of bytes of even length, reckoned modulo 65535.
func sum(b []byte) int {
	total := 0
	for i := 0; i < len(b); i += 2 {
		total += int(binary.BigEndian.Uint16(b[i:]))
	}
	if total > 0 {
		total = (total-1)%65535 + 1
	}
	return total
}

// pseudo returns bytes behind the header that checksums of UDP and TCP cover.
func pseudo(p api.Probe, b []byte) []byte {
	head := binary.BigEndian.AppendUint32(nil, uint32(p.Src))
	head = binary.BigEndian.AppendUint32(head, uint32(p.Dst))
	return append(append(head, 0, byte(p.Proto), 0, byte(len(b))), b...)
}

// numbers appends numbers of 2 bytes.
func numbers(b []byte, list ...int) []byte {
	for _, n := range list {
		b = binary.BigEndian.AppendUint16(b, uint16(n))
	}
	return b
}

// headed returns data behind the header of a probe.
func headed(p api.Probe, data []byte) []byte {
	b := numbers(nil, 0x4500, 20+len(data), p.Tag, 0x4000, p.TTL*256+p.Proto, 0, int(p.Src>>16), int(p.Src&65535), int(p.Dst>>16), int(p.Dst&65535))
	binary.BigEndian.PutUint16(b[10:], uint16(65535-sum(b)))
	return append(b, data...)
}

// written returns the packet of a probe with this number as the 2 bytes of data (which TCP has not), written number by number.
func written(p api.Probe, number int) []byte {
	switch p.Proto {
	case 1:
		return headed(p, numbers(nil, 0x0800, 0x4000+p.Flow, 0x5253, p.Tag, number))
	case 17:
		return headed(p, numbers(nil, 20000+p.Flow, 33434, 10, p.Tag+1, number))
	}
	b := numbers(nil, 20000+p.Flow, 80, 0, p.Tag, 0, 0, 0x5002, 1024, 0, 0)
	binary.BigEndian.PutUint16(b[16:], uint16(65535-sum(pseudo(p, b))))
	return headed(p, b)
}

// checksum returns the checksum of a message or a datagram with this number as its data, by adding up all its other bytes.
func checksum(p api.Probe, number int) int {
	data := written(p, number)[20:]
	if p.Proto == 1 {
		binary.BigEndian.PutUint16(data[2:], 0)
		return 65535 - sum(data)
	}
	binary.BigEndian.PutUint16(data[6:], 0)
	if got := 65535 - sum(pseudo(p, data)); got != 0 {
		return got
	}
	return 65535
}

// required returns the checksum that the message or the datagram of a probe has.
func required(p api.Probe) int {
	if p.Proto == 1 {
		return 0x4000 + p.Flow
	}
	return p.Tag + 1
}

// last returns the number in the last 2 bytes.
func last(b []byte) int { return int(binary.BigEndian.Uint16(b[len(b)-2:])) }

// P7.1

func TestCheck(t *testing.T) {
	for _, p := range samples() {
		if e := probe.Check(p); e != api.OK {
			t.Fatalf("%+v: %d", p, e)
		}
	}
	for _, proto := range protocols {
		for flow := range 1024 {
			if e := probe.Check(of(proto, flow, 9, 9)); e != api.OK {
				t.Errorf("the flow %d: %d", flow, e)
			}
		}
		for tag := range 65535 {
			if e := probe.Check(of(proto, 9, tag, 9)); e != api.OK {
				t.Fatalf("the tag %d: %d", tag, e)
			}
		}
		for ttl := 1; ttl < 256; ttl++ {
			if e := probe.Check(of(proto, 9, 9, ttl)); e != api.OK {
				t.Errorf("the TTL %d: %d", ttl, e)
			}
		}
	}
}

// refused reports an error of Check, Build and KeyOf that is not the expected one, or other results beside it.
func refused(t *testing.T, p api.Probe, want api.Errno) {
	t.Helper()
	if e := probe.Check(p); e != want {
		t.Errorf("Check of %+v: %d", p, e)
	}
	if b, e := probe.Build(p); e != want || len(b) != 0 {
		t.Errorf("Build of %+v: %x, %d", p, b, e)
	}
	if k, e := probe.KeyOf(p); e != want || k != (api.Key{}) {
		t.Errorf("KeyOf of %+v: %v, %d", p, k, e)
	}
}

func TestCheckRange(t *testing.T) {
	wide := []int{math.MinInt, -1 << 32, -65536, -1024, -256, -1, 1 << 32, 1<<32 + 1, math.MaxInt}
	for _, proto := range protocols {
		for _, flow := range append(wide, 1024, 1025, 2047, 2048, 20000, 65535, 65536) {
			refused(t, of(proto, flow, 9, 9), api.ErrRange)
		}
		for _, tag := range append(wide, 65535, 65536, 65537, 131071) {
			refused(t, of(proto, 9, tag, 9), api.ErrRange)
		}
		for _, ttl := range append(wide, 0, 256, 257, 511, 512, 65536) {
			refused(t, of(proto, 9, 9, ttl), api.ErrRange)
		}
		refused(t, of(proto, -1, -1, 0), api.ErrRange)
	}
}

// A protocol is refused first, whatever the numbers are.
func TestCheckProtocol(t *testing.T) {
	list := []int{math.MinInt, -1 << 32, -17, -6, -1, 1<<32 + 1, 1<<32 + 6, 1<<32 + 17, 256 + 1, 256 + 6, 256 + 17, math.MaxInt}
	for proto := range 256 {
		if !slices.Contains(protocols, proto) {
			list = append(list, proto)
		}
	}
	for _, proto := range list {
		for _, p := range []api.Probe{of(proto, 9, 9, 9), of(proto, -1, 9, 9), of(proto, 1024, 9, 9), of(proto, 9, -1, 9), of(proto, 9, 65535, 9), of(proto, 9, 9, 0), of(proto, 9, 9, 256), {Proto: proto}} {
			refused(t, p, api.ErrProtocol)
		}
	}
}

// P7.2

// built reports a packet that is not that of its probe, or that does not come back.
func built(t *testing.T, p api.Probe) {
	t.Helper()
	b, e := probe.Build(p)
	if e != api.OK || len(b) < 30 {
		t.Fatalf("%+v: %x, %d", p, b, e)
	}
	if !slices.Equal(b, written(p, last(b))) {
		t.Fatalf("%+v: %x instead of %x", p, b, written(p, last(b)))
	}
	if p.Proto != 6 && (last(b) == 0 || checksum(p, last(b)) != required(p)) {
		t.Fatalf("%+v: with the data %x the checksum is %x", p, last(b), checksum(p, last(b)))
	}
	if back, e := probe.Read(b); e != api.OK || back != p {
		t.Fatalf("%x of %+v is read as %+v, %d", b, p, back, e)
	}
}

func TestBuild(t *testing.T) {
	for _, p := range samples() {
		built(t, p)
	}
}

// All flows and all tags have packets.
func TestBuildAll(t *testing.T) {
	for _, proto := range protocols {
		for flow := range 1024 {
			built(t, of(proto, flow, flow*61, 1+flow%255))
		}
		for tag := range 65535 {
			built(t, of(proto, tag%1024, tag, 1+tag%255))
		}
	}
}

// Packets that are written down here.
func TestBuildExamples(t *testing.T) {
	head := func(length, tag, ttl, proto, sum int) []byte {
		return numbers(nil, 0x4500, length, tag, 0x4000, ttl*256+proto, sum, 0x0A00, 1, 0x0A00, 2)
	}
	for _, x := range []struct {
		proto, flow, tag, ttl int
		want                  []byte
	}{
		{1, 0, 0, 5, append(head(30, 0, 5, 1, 0x61DD), 8, 0, 0x40, 0, 0x52, 0x53, 0, 0, 0x65, 0xAC)},
		{17, 0, 0, 5, append(head(30, 0, 5, 17, 0x61CD), 0x4E, 0x20, 0x82, 0x9A, 0, 10, 0, 1, 0x1B, 0x1C)},
		{17, 0, 65534, 5, append(head(30, 65534, 5, 17, 0x61CE), 0x4E, 0x20, 0x82, 0x9A, 0, 10, 0xFF, 0xFF, 0x1B, 0x1D)},
		{6, 5, 7, 5, append(head(40, 7, 5, 6, 0x61C7), 0x4E, 0x25, 0, 80, 0, 0, 0, 7, 0, 0, 0, 0, 0x50, 2, 4, 0, 0x49, 0x64, 0, 0)},
	} {
		p := api.Probe{Src: 0x0A000001, Dst: 0x0A000002, Proto: x.proto, Flow: x.flow, Tag: x.tag, TTL: x.ttl}
		if b, e := probe.Build(p); e != api.OK || !slices.Equal(b, x.want) {
			t.Errorf("%+v: %x, %d", p, b, e)
		}
	}
}

// The data is the only number from 1 to 65535 with the required checksum.
func TestOneNumber(t *testing.T) {
	for _, p := range []api.Probe{of(1, 0, 0, 1), of(1, 1023, 65534, 1), of(17, 0, 0, 1), of(17, 1023, 65533, 1), of(17, 512, 65534, 1), largest(1), largest(17)} {
		b, _ := probe.Build(p)
		for number := 1; number < 65536; number++ {
			if fits := checksum(p, number) == required(p); fits != (number == last(b)) {
				t.Errorf("%+v: the data %x, and %x: %v", p, last(b), number, fits)
			}
		}
	}
}

// largest returns a probe whose data is 65535.
func largest(proto int) api.Probe {
	for tag := range 65535 {
		if p := of(proto, 3, tag, 7); checksum(p, 65535) == required(p) {
			return p
		}
	}
	return none
}

// Where the data is 65535, the data 0 has the same checksum, but is that of no probe.
func TestLargest(t *testing.T) {
	for _, proto := range []int{1, 17} {
		p := largest(proto)
		b, e := probe.Build(p)
		if e != api.OK || last(b) != 65535 {
			t.Errorf("%+v: %x, %d", p, b, e)
		}
		if checksum(p, 0) != required(p) {
			t.Errorf("%+v: the checksum with 0 is %x", p, checksum(p, 0))
		}
		foreign(t, "the data 0", written(p, 0))
	}
}

// With the tag 65534 the checksum of UDP is 65535, since all that is added is 65535; also where this is so without data.
func TestGreatestTag(t *testing.T) {
	found := false
	for low := range 65536 {
		p := api.Probe{Src: here, Dst: api.Address(0x0A000000 + low), Proto: 17, Flow: 9, Tag: 65534, TTL: 3}
		if low%97 == 0 {
			built(t, p)
		}
		if b := numbers(nil, 20009, 33434, 10, 0, 0); sum(pseudo(p, b)) == 65535 {
			found = true
			built(t, p)
			if b, _ := probe.Build(p); last(b) != 65535 {
				t.Errorf("%+v: %x", p, b)
			}
		}
	}
	if !found {
		t.Error("no destination is like this")
	}
}

// foreign reports bytes that are read as a probe.
func foreign(t *testing.T, what string, b []byte) {
	t.Helper()
	if p, e := probe.Read(b); e != api.ErrForeign || p != none {
		t.Errorf("%s: %x is read as %+v, %d", what, b, p, e)
	}
}

func TestReadNoPacket(t *testing.T) {
	foreign(t, "nothing", nil)
	foreign(t, "zeros", make([]byte, 30))
	foreign(t, "many zeros", make([]byte, 70000))
	for _, proto := range protocols {
		b, _ := probe.Build(of(proto, 9, 9, 9))
		for length := range b {
			foreign(t, "the beginning", b[:length])
		}
		foreign(t, "a byte more", append(slices.Clone(b), 0))
		foreign(t, "two packets", append(slices.Clone(b), b...))
		foreign(t, "much more", append(slices.Clone(b), make([]byte, 3000)...))
	}
}

// No change of one byte gives the packet of another probe.
func TestReadOneByte(t *testing.T) {
	for _, proto := range protocols {
		for _, p := range []api.Probe{of(proto, 9, 777, 64), of(proto, 0, 0, 1), of(proto, 1023, 65534, 255)} {
			b, _ := probe.Build(p)
			for at := range b {
				for x := range 256 {
					if c := slices.Clone(b); c[at] != byte(x) {
						c[at] = byte(x)
						foreign(t, "a byte is changed", c)
					}
				}
			}
		}
	}
}

// parts is the packet of a probe, in parts that can be changed.
type parts struct {
	header api.Header
	echo   api.Echo
	udp    api.Datagram
	tcp    api.Segment
}

// split returns the parts of the packet of a probe.
func split(p api.Probe) parts {
	b, _ := probe.Build(p)
	packet, _ := ipv4.Decode(b)
	x := parts{header: packet.Header}
	x.echo, _ = transport.DecodeEcho(packet.Data)
	x.udp, _ = transport.DecodeUDP(p.Src, p.Dst, packet.Data)
	x.tcp, _ = transport.DecodeTCP(p.Src, p.Dst, packet.Data)
	return x
}

// joined returns a packet of parts, with the checksums that belong to them, as one of this protocol.
func (x parts) joined(t *testing.T, proto int) []byte {
	t.Helper()
	var data []byte
	var e api.Errno
	switch proto {
	case 1:
		data, e = transport.EncodeEcho(x.echo)
	case 17:
		data, e = transport.EncodeUDP(here, there, x.udp)
	case 6:
		data, e = transport.EncodeTCP(here, there, x.tcp)
	}
	b, f := ipv4.Encode(api.Packet{Header: x.header, Data: data})
	if e != api.OK || f != api.OK {
		t.Fatalf("%+v: %d, %d", x, e, f)
	}
	return b
}

// data returns the place of the data of one of the parts.
func (x *parts) data(proto int) *[]byte {
	return map[int]*[]byte{1: &x.echo.Data, 6: &x.tcp.Data, 17: &x.udp.Data}[proto]
}

// ports returns the places of the ports of one of the parts.
func (x *parts) ports(proto int) (src, dst *int) {
	if proto == 6 {
		return &x.tcp.SrcPort, &x.tcp.DstPort
	}
	return &x.udp.SrcPort, &x.udp.DstPort
}

// balance replaces the first 2 bytes of data, if there are so many, by those with which the checksum is the required one.
func (x *parts) balance(t *testing.T, proto, required int) {
	t.Helper()
	data, at := *x.data(proto), map[int]int{1: 22, 6: 36, 17: 26}[proto]
	if len(data) < 2 {
		return
	}
	data[0], data[1] = 0, 0
	now := int(binary.BigEndian.Uint16(x.joined(t, proto)[at:]))
	binary.BigEndian.PutUint16(data, uint16((now+65535-required+65534)%65535+1))
	if got := int(binary.BigEndian.Uint16(x.joined(t, proto)[at:])); got != required {
		t.Errorf("%+v: the checksum is %x instead of %x", x, got, required)
	}
}

// change is something that makes the packet of a probe the packet of none.
type change struct {
	name string
	do   func(x *parts)
}

// headerChanges returns changes of a header.
func headerChanges(proto int) []change {
	list := []change{
		{"TOS", func(x *parts) { x.header.TOS = 1 }},
		{"another TOS", func(x *parts) { x.header.TOS = 255 }},
		{"no Keep", func(x *parts) { x.header.Keep = false }},
		{"TTL 0", func(x *parts) { x.header.TTL = 0 }},
		{"ID", func(x *parts) { x.header.ID++ }},
		{"ID 0", func(x *parts) { x.header.ID = 0 }},
		{"ID 65535", func(x *parts) { x.header.ID = 65535 }},
	}
	for other := range 256 {
		if other != proto {
			list = append(list, change{"protocol " + strconv.Itoa(other), func(x *parts) { x.header.Proto = other }})
		}
	}
	return list
}

// dataChanges returns changes of the length of data.
func dataChanges(proto int) []change {
	var list []change
	for length := range 6 {
		if length != map[int]int{1: 2, 6: 0, 17: 2}[proto] {
			list = append(list, change{strconv.Itoa(length) + " bytes", func(x *parts) {
				old := *x.data(proto)
				*x.data(proto) = make([]byte, length)
				copy(*x.data(proto), old)
			}})
		}
	}
	return list
}

// portChanges returns changes of the ports of UDP and TCP.
func portChanges(proto int) []change {
	var list []change
	add := func(name string, do func(src, dst *int)) {
		list = append(list, change{name, func(x *parts) { do(x.ports(proto)) }})
	}
	add("ports exchanged", func(src, dst *int) { *src, *dst = *dst, *src })
	other := map[int]int{6: 33434, 17: 80}[proto]
	for _, port := range []int{0, 79, 81, 443, 33433, 33435, other, 65535} {
		add("to port "+strconv.Itoa(port), func(src, dst *int) { *dst = port })
	}
	for _, port := range []int{0, 1, 700, 19998, 19999, 21024, 21025, 65535} {
		add("from port "+strconv.Itoa(port), func(src, dst *int) { *src = port })
	}
	return list
}

// changes returns changes of the packet of a probe of the flow 700 and the tag 6000.
func changes(proto int) []change {
	list := append(headerChanges(proto), dataChanges(proto)...)
	if proto != 1 {
		list = append(list, portChanges(proto)...)
	}
	switch proto {
	case 1:
		list = append(list, []change{
			{"reply", func(x *parts) { x.echo.Reply = true }},
			{"Ident", func(x *parts) { x.echo.Ident++ }},
			{"Ident 0", func(x *parts) { x.echo.Ident = 0 }},
			{"Ident, turned", func(x *parts) { x.echo.Ident = 0x5352 }},
			{"Seq", func(x *parts) { x.echo.Seq++ }},
			{"Ident and Seq", func(x *parts) { x.echo.Ident, x.echo.Seq = x.echo.Seq, x.echo.Ident }},
		}...)
	case 6:
		list = append(list, []change{
			{"Seq", func(x *parts) { x.tcp.Seq++ }},
			{"Seq, longer", func(x *parts) { x.tcp.Seq += 65536 }},
			{"Seq as Ack", func(x *parts) { x.tcp.Seq, x.tcp.Ack = 0, x.tcp.Seq }},
			{"Ack", func(x *parts) { x.tcp.Ack = 1 }},
			{"flags", func(x *parts) { x.tcp.Flags = api.FlagSyn | api.FlagAcknowledge }},
			{"reset", func(x *parts) { x.tcp.Flags = api.FlagReset }},
			{"no flags", func(x *parts) { x.tcp.Flags = 0 }},
			{"window", func(x *parts) { x.tcp.Window++ }},
			{"no window", func(x *parts) { x.tcp.Window = 0 }},
		}...)
	}
	return list
}

// Packets that are valid, and are those of probes but for one part, with and without data that balances it.
func TestReadForeign(t *testing.T) {
	for _, proto := range protocols {
		p := of(proto, 700, 6000, 64)
		for _, c := range changes(proto) {
			x := split(p)
			c.do(&x)
			foreign(t, c.name, x.joined(t, proto))
			if proto != 6 { // without a balance
				x.balance(t, proto, required(p))
				foreign(t, c.name+", balanced", x.joined(t, proto))
			}
		}
		x := split(p)
		x.balance(t, proto, required(p))
		if got, e := probe.Read(x.joined(t, proto)); e != api.OK || got != p {
			t.Errorf("unchanged: %+v, %d", got, e)
		}
	}
}

// An echo request that is balanced for the checksum of another flow is the packet of that flow.
func TestReadFlow(t *testing.T) {
	for flow := range 1024 {
		x := split(of(1, 700, 6000, 64))
		x.balance(t, 1, 0x4000+flow)
		if p, e := probe.Read(x.joined(t, 1)); e != api.OK || p != of(1, flow, 6000, 64) {
			t.Errorf("the flow %d: %+v, %d", flow, p, e)
		}
	}
}

// The first flows and tags that there are not have no packets.
func TestReadBeyond(t *testing.T) {
	for _, tag := range []int{0, 1, 777, 65533, 65534, 65535} {
		for _, flow := range []int{-1, -2, 1024, 1025, -16384, 32767, 65535 - 20000} {
			for _, proto := range protocols {
				foreign(t, "another flow", beyond(proto, flow, tag))
			}
		}
	}
	for _, proto := range protocols {
		foreign(t, "the tag 65535", beyond(proto, 9, 65535))
		for _, flow := range []int{0, 1023} {
			if p, e := probe.Read(beyond(proto, flow, 65534)); e != api.OK || p != of(proto, flow, 65534, 9) {
				t.Errorf("%+v, %d", p, e)
			}
		}
	}
}

// beyond returns the packet that a probe would have if its flow and its tag were permitted; with the tag 65535, the checksum of UDP would not fit into 2 bytes, and is 0.
func beyond(proto, flow, tag int) []byte {
	p := of(proto, flow, tag, 9)
	if proto == 6 {
		return written(p, 0)
	}
	for number := 1; number < 65536; number++ {
		if got := checksum(p, number); got == required(p) || required(p) == 65536 && got == 65535 {
			return written(p, number)
		}
	}
	return nil
}

// Whatever is read as a probe is its packet: all numbers of 2 bytes are replaced, and checksums are made for them.
func TestReadOtherWay(t *testing.T) {
	for _, proto := range protocols {
		p := of(proto, 700, 6000, 64)
		b, _ := probe.Build(p)
		sumAt := map[int]int{1: 2, 6: 16, 17: 6}[proto]
		accepted := 0
		for at := 4; at < len(b); at += 2 {
			for _, n := range []int{0, 1, 2, 255, 256, 1023, 1024, 0x0800, 0x3FFF, 0x4000, 0x43FF, 0x4400, 0x5253, 19999, 20000, 21023, 21024, 65534, 65535, last(b) + 1, last(b) - 1} {
				c := slices.Clone(b)
				binary.BigEndian.PutUint16(c[at:], uint16(n))
				packet := c[20:]
				binary.BigEndian.PutUint16(packet[sumAt:], 0)
				covered := packet
				if proto != 1 {
					covered = pseudo(api.Probe{Src: api.Address(binary.BigEndian.Uint32(c[12:])), Dst: api.Address(binary.BigEndian.Uint32(c[16:])), Proto: proto}, packet)
				}
				binary.BigEndian.PutUint16(packet[sumAt:], uint16(65535-sum(covered)))
				binary.BigEndian.PutUint16(c[10:], 0)
				binary.BigEndian.PutUint16(c[10:], uint16(65535-sum(c[:20])))
				got, e := probe.Read(c)
				if e != api.OK {
					foreign(t, "refused", c)
					continue
				}
				accepted++
				if again, e := probe.Build(got); e != api.OK || !slices.Equal(again, c) {
					t.Errorf("%x is read as %+v, whose packet is %x, %d", c, got, again, e)
				}
			}
		}
		if accepted < 20 {
			t.Errorf("the protocol %d: %d are accepted", proto, accepted)
		}
	}
}

// P7.3

// The key of a packet, by its protocol and its data.
func TestKey(t *testing.T) {
	all := []byte{0xA1, 0xB2, 0xC3, 0xD4, 0xE5, 0xF6}
	for proto := range 256 {
		for length := range len(all) + 1 {
			for _, pair := range pairs {
				want := api.Key{Src: pair[0], Dst: pair[1], Proto: proto}
				if slices.Contains(protocols, proto) && length >= 4 {
					want.A, want.B = 0xA1B2, 0xC3D4
				}
				b, _ := ipv4.Encode(api.Packet{Header: api.Header{Proto: proto, Src: pair[0], Dst: pair[1]}, Data: all[:length]})
				if k, e := probe.Key(b); e != api.OK || k != want {
					t.Errorf("the protocol %d with %d bytes: %+v, %d", proto, length, k, e)
				}
			}
		}
	}
}

// Nothing but addresses, protocol and the first 4 bytes of data is in the key; what they mean is not looked at.
func TestKeyOfAnyPacket(t *testing.T) {
	for _, proto := range protocols {
		for _, n := range []int{0, 1, 255, 256, 32767, 32768, 65535} {
			for _, h := range []api.Header{{}, {TOS: 255, ID: 65535, TTL: 255, Keep: true}} {
				h.Proto, h.Src, h.Dst = proto, here, there
				for _, more := range []int{0, 1, 16, 1476} {
					b, _ := ipv4.Encode(api.Packet{Header: h, Data: append(numbers(nil, n, 65535-n), slices.Repeat([]byte{0xEE}, more)...)})
					if k, e := probe.Key(b); e != api.OK || k != (api.Key{Src: here, Dst: there, Proto: proto, A: n, B: 65535 - n}) {
						t.Errorf("the protocol %d with %d: %+v, %d", proto, n, k, e)
					}
				}
			}
		}
	}
}

// The errors are those of ipv4.Decode.
func TestKeyErrors(t *testing.T) {
	for _, proto := range protocols {
		b, _ := probe.Build(of(proto, 9, 9, 9))
		long := slices.Concat(b, make([]byte, 1501-len(b)))
		binary.BigEndian.PutUint16(long[2:], 1501)
		binary.BigEndian.PutUint16(long[10:], 0)
		binary.BigEndian.PutUint16(long[10:], uint16(65535-sum(long[:20])))
		other, version := slices.Clone(b), slices.Clone(b)
		other[10] ^= 1
		version[0] = 0x46
		for _, x := range []struct {
			b []byte
			e api.Errno
		}{
			{nil, api.ErrShort}, {b[:19], api.ErrShort}, {make([]byte, 20), api.ErrForm}, {version, api.ErrForm}, {other, api.ErrSum},
			{b[:20], api.ErrForm}, {b[:len(b)-1], api.ErrForm}, {append(slices.Clone(b), 0), api.ErrForm}, {long, api.ErrLimit},
		} {
			_, want := ipv4.Decode(x.b)
			if k, e := probe.Key(x.b); e != x.e || want != x.e || k != (api.Key{}) {
				t.Errorf("%.40x: %+v, %d", x.b, k, e)
			}
		}
	}
}

// expected returns the key of a probe.
func expected(p api.Probe) api.Key {
	k := api.Key{Src: p.Src, Dst: p.Dst, Proto: p.Proto, A: 20000 + p.Flow}
	switch p.Proto {
	case 1:
		k.A, k.B = 0x0800, 0x4000+p.Flow
	case 6:
		k.B = 80
	case 17:
		k.B = 33434
	}
	return k
}

// The flow alone decides the key, and KeyOf is Key of the packet.
func TestKeyOf(t *testing.T) {
	for _, p := range samples() {
		b, _ := probe.Build(p)
		k, e := probe.KeyOf(p)
		m, f := probe.Key(b)
		if e != api.OK || f != api.OK || k != expected(p) || m != k {
			t.Fatalf("%+v: %+v, %d; %+v, %d", p, k, e, m, f)
		}
	}
}

// Probes with different flows have different keys; tags and TTLs do not matter.
func TestKeyOfFlows(t *testing.T) {
	for _, proto := range protocols {
		seen := map[api.Key]int{}
		for flow := range 1024 {
			for _, tag := range []int{0, flow, 65534 - flow, 65534} {
				k, e := probe.KeyOf(of(proto, flow, tag, 1+(flow+tag)%255))
				if other, found := seen[k]; e != api.OK || found && other != flow {
					t.Errorf("the flows %d and %d: %+v, %d", other, flow, k, e)
				}
				seen[k] = flow
			}
		}
		if len(seen) != 1024 {
			t.Errorf("the protocol %d: %d keys", proto, len(seen))
		}
	}
}

// Arguments, with their spare capacity, stay as they are, and results are memory of their own.
func TestMemory(t *testing.T) {
	for _, proto := range protocols {
		p := of(proto, 9, 777, 64)
		one, _ := probe.Build(p)
		two, _ := probe.Build(p)
		for i := range one {
			one[i] = 0xEE
		}
		if !slices.Equal(two, written(p, last(two))) {
			t.Errorf("%+v: %x", p, two)
		}
		b := append(two, slices.Repeat([]byte{0xDD}, 40)...)
		before := slices.Clone(b)
		for length := range len(two) + 1 {
			probe.Read(b[:length])
			probe.Key(b[:length])
		}
		if !slices.Equal(b, before) {
			t.Errorf("%+v: %x", p, b)
		}
	}
}

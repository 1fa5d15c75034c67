package frame_test

import (
	"bytes"
	"encoding/binary"
	"math"
	"math/rand"
	"reflect"
	"slices"
	"testing"

	"bailiwick/api"
	"bailiwick/frame"
	"bailiwick/icmp"
	"bailiwick/ip"
	"bailiwick/tcp"
	"bailiwick/udp"
)

const (
	src = 0x0a000001
	dst = 0x08080808
)

// header gives a datagram's header with fields that differ, so that a field in another's place is seen.
func header(proto int, body []byte) api.IP {
	return api.IP{Tos: 0x12, Id: 0x3456, DF: true, TTL: 9, Proto: proto, Src: src, Dst: dst, Body: body}
}

func whole(t *testing.T, p api.IP) []byte {
	t.Helper()
	b, e := ip.Build(p)
	if e != api.OK {
		t.Fatal(e)
	}
	return b
}

func datagram(t *testing.T, u api.Datagram) []byte {
	t.Helper()
	b, e := udp.Build(src, dst, u)
	if e != api.OK {
		t.Fatal(e)
	}
	return b
}

func segment(t *testing.T, p api.Piece) []byte {
	t.Helper()
	b, e := tcp.Build(src, dst, p)
	if e != api.OK {
		t.Fatal(e)
	}
	return b
}

func message(t *testing.T, w api.Word) []byte {
	t.Helper()
	b, e := icmp.Build(w)
	if e != api.OK {
		t.Fatal(e)
	}
	return b
}

// example is chapter 3's datagram.
func example(t *testing.T) []byte {
	t.Helper()
	return datagram(t, api.Datagram{Src: 1000, Dst: 53, Data: []byte("hi")})
}

// sumOf adds the words of the bytes, with the carries.
func sumOf(b []byte) int {
	if len(b)%2 == 1 {
		b = append(slices.Clone(b), 0)
	}
	total := 0
	for i := 0; i < len(b); i += 2 {
		total += int(binary.BigEndian.Uint16(b[i:]))
	}
	for total > 65535 {
		total = total/65536 + total%65536
	}
	return total
}

// turned gives the bytes with bits of one byte turned.
func turned(b []byte, at int, bits byte) []byte {
	b = slices.Clone(b)
	b[at] ^= bits
	return b
}

// signed gives the bytes with the header's check laid anew, the header being of the words that its first byte tells.
func signed(b []byte) []byte {
	b = slices.Clone(b)
	b[10], b[11] = 0, 0
	head := min(int(b[0]&15)*4, len(b))
	binary.BigEndian.PutUint16(b[10:], uint16(65535-sumOf(b[:head])))
	return b
}

// set gives the bytes with one byte laid, and the header's check anew.
func set(b []byte, at int, x byte) []byte {
	b = slices.Clone(b)
	b[at] = x
	return signed(b)
}

// roomy gives bytes that have spare room behind them, filled with a mark, and a look at all of it.
func roomy(b []byte) (list, all []byte) {
	all = append(slices.Clone(b), bytes.Repeat([]byte{0xa5}, 64)...)
	return all[:len(b)], all
}

// sameIP holds datagrams against each other; nil and an empty list are one.
func sameIP(p, q api.IP) bool {
	if !bytes.Equal(p.Options, q.Options) || !bytes.Equal(p.Body, q.Body) {
		return false
	}
	p.Options, q.Options, p.Body, q.Body = nil, nil, nil, nil
	return reflect.DeepEqual(p, q)
}

func sameFrame(f, g api.Frame) bool {
	return sameIP(f.IP, g.IP) && f.Kind == g.Kind && f.From == g.From && f.To == g.To && f.Flags == g.Flags && f.Inner == g.Inner
}

// read asks that Read answers the frame.
func read(t *testing.T, what string, b []byte, want api.Frame) {
	t.Helper()
	if f, why := frame.Read(b); why != api.WhyNot || !sameFrame(f, want) {
		t.Errorf("%s: %v, why %d, want %v", what, f, why, want)
	}
}

// refused asks that Read answers the why and nothing beside it.
func refused(t *testing.T, what string, b []byte, want int) {
	t.Helper()
	if f, why := frame.Read(b); why != want || !sameFrame(f, api.Frame{}) {
		t.Errorf("%s: %v, why %d, want why %d", what, f, why, want)
	}
}

// quoted asks that Quote answers what is quoted.
func quoted(t *testing.T, what string, b []byte, want api.Inner) {
	t.Helper()
	if in, ok := frame.Quote(b); !ok || in != want {
		t.Errorf("%s: %v, %v, want %v", what, in, ok, want)
	}
}

// unquoted asks that Quote says no, and nothing beside it.
func unquoted(t *testing.T, what string, b []byte) {
	t.Helper()
	if in, ok := frame.Quote(b); ok || in != (api.Inner{}) {
		t.Errorf("%s: %v, %v, want nothing", what, in, ok)
	}
}

func ends(from, to int) (api.End, api.End) {
	return api.End{Addr: src, Port: from}, api.End{Addr: dst, Port: to}
}

func frameOf(p api.IP, kind, from, to int) api.Frame {
	f := api.Frame{IP: p, Kind: kind}
	f.From, f.To = ends(from, to)
	return f
}

func innerOf(proto, from, to int) api.Inner {
	in := api.Inner{Proto: proto}
	in.From, in.To = ends(from, to)
	return in
}

// P6.1: the chapter's examples.
func TestExamplesOfTheChapter(t *testing.T) {
	p := header(api.UDP, example(t))
	read(t, "chapter 3's datagram", whole(t, p), frameOf(p, api.KindUDP, 1000, 53))
	q := p
	q.MF = true
	refused(t, "MF", whole(t, q), api.WhyFragment)
	q = p
	q.Proto = 47
	refused(t, "protocol 47", whole(t, q), api.WhyProto)
	b := whole(t, p)
	refused(t, "a turned bit of the data", turned(b, len(b)-1, 1), api.WhySum)
}

// P6.1: frames of UDP, with ports at their least and most, with no sum, and with bytes behind.
func TestReadOfUDP(t *testing.T) {
	for _, u := range []api.Datagram{
		{Src: 1000, Dst: 53, Data: []byte("hi")}, {}, {Src: 65535, Dst: 65535}, {Src: 0, Dst: 65535}, {Src: 0x1234, Dst: 0x5678, Data: []byte("odd")},
		{Src: 1, Dst: 2, Bare: true}, {Src: 256, Dst: 255, Data: make([]byte, api.MaxFrame-28)},
	} {
		p := header(api.UDP, datagram(t, u))
		read(t, "a datagram", whole(t, p), frameOf(p, api.KindUDP, u.Src, u.Dst))
	}
	p := header(api.UDP, append(example(t), 1, 2, 3))
	read(t, "bytes behind the datagram", whole(t, p), frameOf(p, api.KindUDP, 1000, 53))
	p = header(api.UDP, example(t))
	read(t, "bytes behind the body", append(whole(t, p), 9, 9), frameOf(p, api.KindUDP, 1000, 53))
	p.DF, p.TTL, p.Options = false, 0, []byte{1, 1, 1, 0}
	read(t, "options, no TTL, no DF", whole(t, p), frameOf(p, api.KindUDP, 1000, 53))
}

// P6.1: frames of TCP, with all of their flags.
func TestReadOfTCP(t *testing.T) {
	for flags := range 256 {
		p := header(api.TCP, segment(t, api.Piece{Src: 0x1234, Dst: 0x5678, Seq: 7, Flags: flags, Options: []byte{1, 1, 1, 1}, Data: []byte("x")}))
		want := frameOf(p, api.KindTCP, 0x1234, 0x5678)
		want.Flags = flags
		read(t, "a segment", whole(t, p), want)
	}
	for _, ports := range [][2]int{{0, 0}, {65535, 0}, {0, 65535}, {65535, 65535}, {1, 256}} {
		p := header(api.TCP, segment(t, api.Piece{Src: ports[0], Dst: ports[1]}))
		read(t, "a segment's ports", whole(t, p), frameOf(p, api.KindTCP, ports[0], ports[1]))
	}
}

// P6.1: echoes of ICMP, with both ports their number.
func TestReadOfEchoes(t *testing.T) {
	for _, number := range []int{0, 1, 255, 256, 0x1234, 32768, 65535} {
		for _, low := range []uint32{0, 1, 65535} {
			rest := uint32(number)<<16 | low
			p := header(api.ICMP, message(t, api.Word{Type: 8, Rest: rest, Data: []byte("ping!")}))
			read(t, "an echo's request", whole(t, p), frameOf(p, api.KindAsk, number, number))
			p = header(api.ICMP, message(t, api.Word{Type: 0, Rest: rest}))
			read(t, "an echo's reply", whole(t, p), frameOf(p, api.KindAnswer, number, number))
		}
	}
}

// P6.1: messages of ICMP of every Type, with some codes: the kinds, and WhyProto of those of none.
func TestReadOfEveryMessage(t *testing.T) {
	quote := whole(t, header(api.UDP, example(t)))
	for typ := range 256 {
		for _, code := range []int{0, 1, 3, 255} {
			p := header(api.ICMP, message(t, api.Word{Type: typ, Code: code, Rest: 5<<16 | 6, Data: quote}))
			b := whole(t, p)
			switch {
			case typ == 3 || typ == 11 || typ == 12:
				want := frameOf(p, api.KindFault, 0, 0)
				want.Inner = innerOf(api.UDP, 1000, 53)
				read(t, "a fault", b, want)
			case typ == 8 && code == 0:
				read(t, "a request", b, frameOf(p, api.KindAsk, 5, 5))
			case typ == 0 && code == 0:
				read(t, "a reply", b, frameOf(p, api.KindAnswer, 5, 5))
			default:
				refused(t, "a message of no kind", b, api.WhyProto)
			}
		}
	}
}

// P6.1: faults: what they quote is told beside their own ends, and one that quotes nothing has no form.
func TestReadOfFaults(t *testing.T) {
	far := api.IP{TTL: 1, Proto: api.TCP, Src: 0x01020304, Dst: 0x05060708, Body: segment(t, api.Piece{Src: 21, Dst: 40000})}
	quote := whole(t, far)
	inner := api.Inner{Proto: api.TCP, From: api.End{Addr: 0x01020304, Port: 21}, To: api.End{Addr: 0x05060708, Port: 40000}}
	for _, typ := range []int{3, 11, 12} {
		for _, n := range []int{28, 29, 39, len(quote)} {
			p := header(api.ICMP, message(t, api.Word{Type: typ, Code: 4, Rest: 0xabcd1234, Data: quote[:n]}))
			want := frameOf(p, api.KindFault, 0, 0)
			want.Inner = inner
			read(t, "a fault", whole(t, p), want)
		}
		for _, bad := range [][]byte{nil, quote[:19], quote[:20], quote[:27], turned(quote, 0, 0x10), turned(quote, 7, 1), turned(quote, 9, 0x80)} {
			p := header(api.ICMP, message(t, api.Word{Type: typ, Data: bad}))
			refused(t, "a fault whose quote is none", whole(t, p), api.WhyForm)
		}
	}
}

// P6.1: a fault that quotes a fault, or an echo, or no protocol that is translated.
func TestReadOfFaultsAboutMessages(t *testing.T) {
	about := func(proto int, body []byte) api.IP {
		return header(api.ICMP, message(t, api.Word{Type: 3, Data: whole(t, header(proto, body))}))
	}
	p := about(api.ICMP, message(t, api.Word{Type: 8, Rest: 77<<16 | 1}))
	want := frameOf(p, api.KindFault, 0, 0)
	want.Inner = innerOf(api.ICMP, 77, 77)
	read(t, "about an echo", whole(t, p), want)
	refused(t, "about a fault", whole(t, about(api.ICMP, message(t, api.Word{Type: 3, Data: example(t)}))), api.WhyForm)
	refused(t, "about another protocol", whole(t, about(47, example(t))), api.WhyForm)
}

// P6.1: each error of ip.Parse, in the order of its chapter, and the why that it becomes.
func TestReadOfDatagramsOfNoForm(t *testing.T) {
	b := whole(t, header(api.UDP, example(t)))
	refused(t, "nothing", nil, api.WhyForm)
	refused(t, "an empty list", []byte{}, api.WhyForm)
	refused(t, "one byte", []byte{0x45}, api.WhyForm)
	refused(t, "19 bytes", b[:19], api.WhyForm)
	refused(t, "20 bytes of more", b[:20], api.WhyForm)
	refused(t, "one byte less", b[:len(b)-1], api.WhyForm)
	refused(t, "version 5", set(b, 0, 0x55), api.WhyForm)
	refused(t, "version 6", set(b, 0, 0x65), api.WhyForm)
	refused(t, "version 0", set(b, 0, 0x05), api.WhyForm)
	refused(t, "a header of 4 words", set(b, 0, 0x44), api.WhyForm)
	refused(t, "a header beyond the end", set(b, 0, 0x4f), api.WhyForm)
	refused(t, "a total below the header", set(b, 3, 19), api.WhyForm)
	refused(t, "the highest bit", set(b, 6, 0x80), api.WhyForm)
	refused(t, "a total beyond the end", set(b, 3, byte(len(b)+1)), api.WhyForm)
	for at := range 20 {
		if at == 0 || at == 2 || at == 3 || at == 6 {
			continue // a turned bit there may be one of form ahead of the sum
		}
		for bit := range 8 {
			refused(t, "a turned bit of the header", turned(b, at, 1<<bit), api.WhySum)
		}
	}
	long := whole(t, header(api.UDP, datagram(t, api.Datagram{Data: make([]byte, api.MaxFrame-28)})))
	if _, why := frame.Read(long); why != api.WhyNot {
		t.Errorf("a frame of MaxFrame bytes: why %d", why)
	}
	refused(t, "a byte beyond MaxFrame", append(long, 0), api.WhyForm)
}

// P6.1: of several faults the one that is named first is told: of IP ahead of fragments, these ahead of protocols, these ahead of what they carry.
func TestReadTellsTheFirst(t *testing.T) {
	bad := turned(example(t), 9, 1) // a sum that is wrong
	p := header(api.UDP, bad)
	refused(t, "a wrong sum", whole(t, p), api.WhySum)
	p.MF = true
	refused(t, "MF ahead of the sum", whole(t, p), api.WhyFragment)
	b := whole(t, p)
	refused(t, "the header's sum ahead of MF", turned(b, 8, 1), api.WhySum)
	refused(t, "the header's form ahead of MF", set(b, 3, 19), api.WhyForm)
	p.MF, p.Proto = false, 47
	refused(t, "a protocol ahead of its sum", whole(t, p), api.WhyProto)
	refused(t, "the header's sum ahead of a protocol", turned(whole(t, p), 8, 1), api.WhySum)
	p.Off = 1
	refused(t, "Off ahead of a protocol", whole(t, p), api.WhyFragment)
	p.Off, p.Body = 0, nil
	refused(t, "a protocol ahead of its form", whole(t, p), api.WhyProto)
	p.Proto, p.Off = api.UDP, 8191
	refused(t, "Off ahead of a form", whole(t, p), api.WhyFragment)

	none := message(t, api.Word{Type: 5})
	refused(t, "no kind", whole(t, header(api.ICMP, none)), api.WhyProto)
	refused(t, "the sum ahead of no kind", whole(t, header(api.ICMP, turned(none, 7, 1))), api.WhySum)
	empty := message(t, api.Word{Type: 3})
	refused(t, "no quote", whole(t, header(api.ICMP, empty)), api.WhyForm)
	refused(t, "the sum ahead of no quote", whole(t, header(api.ICMP, turned(empty, 7, 1))), api.WhySum)
	odd := message(t, api.Word{Type: 8, Code: 1})
	refused(t, "an echo's type with a code", whole(t, header(api.ICMP, odd)), api.WhyProto)
}

// P6.1: MF and Off, each by itself and both, of each protocol; DF is no part of it.
func TestReadOfFragments(t *testing.T) {
	bodies := []struct {
		proto int
		body  []byte
	}{
		{api.UDP, example(t)}, {api.TCP, segment(t, api.Piece{})}, {api.ICMP, message(t, api.Word{Type: 8})}, {47, nil}, {0, nil}, {255, []byte("x")},
	}
	for _, c := range bodies {
		for _, df := range []bool{false, true} {
			p := header(c.proto, c.body)
			p.DF, p.MF = df, true
			refused(t, "MF alone", whole(t, p), api.WhyFragment)
			for bit := range 13 {
				p.MF, p.Off = false, 1<<bit
				refused(t, "Off alone", whole(t, p), api.WhyFragment)
				p.MF = true
				refused(t, "MF and Off", whole(t, p), api.WhyFragment)
			}
		}
	}
}

// P6.1: every protocol that is none of the three.
func TestReadOfOtherProtocols(t *testing.T) {
	for proto := range 256 {
		if proto == api.UDP || proto == api.TCP || proto == api.ICMP {
			continue
		}
		for _, body := range [][]byte{nil, example(t), segment(t, api.Piece{}), message(t, api.Word{Type: 8})} {
			refused(t, "another protocol", whole(t, header(proto, body)), api.WhyProto)
		}
	}
}

// P6.1: each error of udp.Parse and the why that it becomes.
func TestReadOfWrongUDP(t *testing.T) {
	body := example(t)
	refuse := func(what string, body []byte, want int) {
		t.Helper()
		refused(t, what, whole(t, header(api.UDP, body)), want)
	}
	refuse("no body", nil, api.WhyForm)
	refuse("7 bytes", body[:7], api.WhyForm)
	refuse("a length of 7", turned(body, 5, 10^7), api.WhyForm)
	refuse("a length beyond", turned(body, 5, 10^11), api.WhyForm)
	refuse("a body cut off", body[:9], api.WhyForm)
	for at := range body {
		if at != 4 && at != 5 {
			refuse("a turned bit", turned(body, at, 1), api.WhySum)
		}
	}
	p := header(api.UDP, body)
	p.Dst++
	refused(t, "another address", whole(t, p), api.WhySum)
}

// P6.1: each error of tcp.Parse and the why that it becomes.
func TestReadOfWrongTCP(t *testing.T) {
	body := segment(t, api.Piece{Src: 5, Dst: 21, Seq: 1, Flags: api.SYN, Data: []byte("abc")})
	refuse := func(what string, body []byte, want int) {
		t.Helper()
		refused(t, what, whole(t, header(api.TCP, body)), want)
	}
	refuse("no body", nil, api.WhyForm)
	refuse("19 bytes", body[:19], api.WhyForm)
	refuse("a header of 4 words", turned(body, 12, 0x50^0x40), api.WhyForm)
	refuse("a bit that is 0", turned(body, 12, 1), api.WhyForm)
	refuse("a header beyond the end", turned(body, 12, 0x50^0x60), api.WhyForm)
	refuse("a byte less", body[:len(body)-1], api.WhySum)
	refuse("a byte more", append(slices.Clone(body), 1), api.WhySum)
	for at := range body {
		if at != 12 {
			refuse("a turned bit", turned(body, at, 1), api.WhySum)
		}
	}
	p := header(api.TCP, body)
	p.Src++
	refused(t, "another address", whole(t, p), api.WhySum)
}

// P6.1: each error of icmp.Parse and the why that it becomes; the addresses are not under its sum.
func TestReadOfWrongICMP(t *testing.T) {
	body := message(t, api.Word{Type: 8, Rest: 65538, Data: []byte("abc")})
	refuse := func(what string, body []byte, want int) {
		t.Helper()
		refused(t, what, whole(t, header(api.ICMP, body)), want)
	}
	refuse("no body", nil, api.WhyForm)
	refuse("7 bytes", body[:7], api.WhyForm)
	refuse("a byte less", body[:len(body)-1], api.WhySum)
	for at := range body {
		refuse("a turned bit", turned(body, at, 1), api.WhySum)
	}
	p := header(api.ICMP, body)
	p.Src, p.Dst = 1, 2
	f, why := frame.Read(whole(t, p))
	if why != api.WhyNot || f.From != (api.End{Addr: 1, Port: 1}) || f.To != (api.End{Addr: 2, Port: 1}) {
		t.Errorf("other addresses: %v, why %d", f, why)
	}
}

// P6.2: quotes of each protocol, of all lengths from the shortest on, with options in the header.
func TestQuote(t *testing.T) {
	cases := []struct {
		proto    int
		body     []byte
		from, to int
	}{
		{api.UDP, example(t), 1000, 53},
		{api.UDP, datagram(t, api.Datagram{Src: 65535, Dst: 0}), 65535, 0},
		{api.TCP, segment(t, api.Piece{Src: 0x1234, Dst: 0x5678, Seq: 0x9abcdef0}), 0x1234, 0x5678},
		{api.TCP, segment(t, api.Piece{Src: 0, Dst: 65535, Flags: 255}), 0, 65535},
		{api.ICMP, message(t, api.Word{Type: 8, Rest: 0x12345678}), 0x1234, 0x1234},
		{api.ICMP, message(t, api.Word{Type: 0, Rest: 0xffff0000, Data: []byte("x")}), 65535, 65535},
		{api.ICMP, message(t, api.Word{Type: 0, Rest: 0x0000ffff}), 0, 0},
	}
	for _, c := range cases {
		for words := 0; words <= 10; words++ {
			p := header(c.proto, c.body)
			p.Options = bytes.Repeat([]byte{7}, words*4)
			b := whole(t, p)
			for n := range b {
				if n < 28+words*4 {
					unquoted(t, "a quote cut off", b[:n])
				} else {
					quoted(t, "a quote", b[:n], innerOf(c.proto, c.from, c.to))
				}
			}
			quoted(t, "a whole frame", b, innerOf(c.proto, c.from, c.to))
			quoted(t, "bytes behind", append(b, 1, 2, 3), innerOf(c.proto, c.from, c.to))
		}
	}
	unquoted(t, "nothing", nil)
	unquoted(t, "an empty list", []byte{})
}

// P6.2: lengths are not asked, above or below.
func TestQuoteOfAnyLength(t *testing.T) {
	b := whole(t, header(api.UDP, example(t)))
	quoted(t, "far more than a frame", append(slices.Clone(b), make([]byte, 70000)...), innerOf(api.UDP, 1000, 53))
	quoted(t, "a body of 8 bytes", b[:28], innerOf(api.UDP, 1000, 53))
	for _, total := range []byte{0, 1, 19, 20, 27, 28, 255} {
		c := slices.Clone(b)
		c[3] = total
		quoted(t, "another total", c, innerOf(api.UDP, 1000, 53))
		c[2] = 255
		quoted(t, "a great total", c, innerOf(api.UDP, 1000, 53))
		d := slices.Clone(b)
		d[25] = total
		quoted(t, "another length of UDP", d, innerOf(api.UDP, 1000, 53))
	}
	s := whole(t, header(api.TCP, segment(t, api.Piece{Src: 1, Dst: 2})))
	quoted(t, "a segment of no header's words", set(s, 32, 0), innerOf(api.TCP, 1, 2))
}

// P6.2: which fields count: the version, the words, Off, the protocol and of ICMP the Type and the Code, and no sum.
func TestQuoteOfEachByte(t *testing.T) {
	for _, c := range []struct {
		proto int
		body  []byte
	}{
		{api.UDP, example(t)}, {api.TCP, segment(t, api.Piece{Src: 1000, Dst: 53})}, {api.ICMP, message(t, api.Word{Type: 8, Rest: 9<<16 | 4})},
	} {
		b := whole(t, header(c.proto, c.body))[:28]
		for at := range b {
			for x := range 256 {
				q := slices.Clone(b)
				q[at] = byte(x)
				want, wanted := model(q)
				if in, ok := frame.Quote(q); ok != wanted || in != want {
					t.Errorf("protocol %d, byte %d is %d: %v, %v, want %v, %v", c.proto, at, x, in, ok, want, wanted)
				}
			}
		}
	}
}

// model answers a quote another way.
func model(b []byte) (api.Inner, bool) {
	if len(b) < 20 || b[0]/16 != 4 || b[0]%16 < 5 {
		return api.Inner{}, false
	}
	head := int(b[0]%16) * 4
	if len(b)-head < 8 || b[6]%32 != 0 || b[7] != 0 {
		return api.Inner{}, false
	}
	body := b[head:]
	in := api.Inner{Proto: int(b[9])}
	in.From = api.End{Addr: binary.BigEndian.Uint32(b[12:]), Port: int(body[0])*256 + int(body[1])}
	in.To = api.End{Addr: binary.BigEndian.Uint32(b[16:]), Port: int(body[2])*256 + int(body[3])}
	switch b[9] {
	case 6, 17:
		return in, true
	case 1:
		if body[0] != 0 && body[0] != 8 || body[1] != 0 {
			return api.Inner{}, false
		}
		in.From.Port = int(body[4])*256 + int(body[5])
		in.To.Port = in.From.Port
		return in, true
	}
	return api.Inner{}, false
}

// P6.2: each bit of Off refuses; MF, DF and the highest bit do not.
func TestQuoteOfFragments(t *testing.T) {
	b := whole(t, header(api.UDP, example(t)))
	for bit := range 16 {
		q := slices.Clone(b)
		binary.BigEndian.PutUint16(q[6:], 1<<bit)
		if bit < 13 {
			unquoted(t, "a bit of Off", q)
		} else {
			quoted(t, "a flag", q, innerOf(api.UDP, 1000, 53))
		}
	}
	q := slices.Clone(b)
	q[6], q[7] = 0xe0, 0
	quoted(t, "all flags", q, innerOf(api.UDP, 1000, 53))
}

// P6.2: every version and every number of words, with as many bytes as they ask for and one less.
func TestQuoteOfEveryLead(t *testing.T) {
	for lead := range 256 {
		head := lead % 16 * 4
		b := make([]byte, max(head, 20)+8)
		b[0], b[9] = byte(lead), api.UDP
		if head >= 20 {
			binary.BigEndian.PutUint32(b[head:], 0x12345678)
		}
		binary.BigEndian.PutUint32(b[12:], src)
		binary.BigEndian.PutUint32(b[16:], dst)
		switch {
		case lead/16 != 4 || head < 20:
			unquoted(t, "another lead", b)
		case head == 20:
			quoted(t, "no options", b, innerOf(api.UDP, 0x1234, 0x5678))
		default:
			in, ok := frame.Quote(b)
			if want := innerOf(api.UDP, 0x1234, 0x5678); !ok || in != want {
				t.Errorf("lead %d: %v, %v, want %v", lead, in, ok, want)
			}
		}
		unquoted(t, "a byte less", b[:len(b)-1])
	}
}

// P6.2: every protocol, and of ICMP every Type and Code.
func TestQuoteOfEveryProtocol(t *testing.T) {
	b := whole(t, header(api.UDP, example(t)))
	for proto := range 256 {
		q := slices.Clone(b)
		q[9] = byte(proto)
		switch proto {
		case api.UDP, api.TCP:
			quoted(t, "a protocol with ports", q, innerOf(proto, 1000, 53))
		default:
			unquoted(t, "another protocol", q)
		}
	}
	e := whole(t, header(api.ICMP, message(t, api.Word{Type: 8, Rest: 0xabcd<<16 | 1})))
	for typ := range 256 {
		for code := range 256 {
			q := slices.Clone(e)
			q[20], q[21] = byte(typ), byte(code)
			if (typ == 0 || typ == 8) && code == 0 {
				quoted(t, "an echo", q, innerOf(api.ICMP, 0xabcd, 0xabcd))
			} else {
				unquoted(t, "no echo", q)
			}
		}
	}
}

// P6.2: bytes by chance, most of them near to a quote, against the model.
func TestQuoteOfAnyBytes(t *testing.T) {
	r := rand.New(rand.NewSource(62))
	for range 50000 {
		b := make([]byte, r.Intn(90))
		r.Read(b)
		if len(b) >= 20 && r.Intn(8) != 0 {
			b[0] = 0x44 + byte(r.Intn(5))
			b[6], b[7] = b[6]&0xe0, 0
			b[9] = []byte{1, 6, 17, 2}[r.Intn(4)]
			if head := int(b[0]%16) * 4; len(b) >= head+2 && r.Intn(2) == 0 {
				b[head], b[head+1] = byte(r.Intn(2))*8, 0
			}
		}
		want, wanted := model(b)
		if in, ok := frame.Quote(b); ok != wanted || in != want {
			t.Fatalf("%x: %v, %v, want %v, %v", b, in, ok, want, wanted)
		}
	}
}

// P6.3: the protocol of every kind, and of numbers that are none.
func TestProto(t *testing.T) {
	for kind, want := range map[int]int{
		api.KindNone: 0, api.KindUDP: api.UDP, api.KindTCP: api.TCP, api.KindAsk: api.ICMP, api.KindAnswer: api.ICMP, api.KindFault: 0,
		6: 0, 7: 0, 17: 0, -1: 0, -2: 0, 256 + api.KindUDP: 0, 1<<32 + api.KindTCP: 0, math.MaxInt: 0, math.MinInt: 0,
	} {
		if got := frame.Proto(kind); got != want {
			t.Errorf("kind %d: %d, want %d", kind, got, want)
		}
	}
}

// samples lists frames of every kind and bytes that are none.
func samples(t *testing.T) [][]byte {
	t.Helper()
	p := header(api.UDP, example(t))
	p.Options = []byte{1, 2, 3, 4}
	b := whole(t, p)
	part := header(api.TCP, segment(t, api.Piece{Flags: 2}))
	part.MF = true
	return [][]byte{
		b, append(slices.Clone(b), 7), b[:25], turned(b, 8, 1), turned(b, len(b)-1, 1),
		whole(t, header(api.TCP, segment(t, api.Piece{Src: 1, Dst: 2, Flags: 18, Options: []byte{1, 1, 1, 1}, Data: []byte("x")}))),
		whole(t, header(api.ICMP, message(t, api.Word{Type: 8, Rest: 5 << 16, Data: []byte("x")}))),
		whole(t, header(api.ICMP, message(t, api.Word{Rest: 5 << 16}))),
		whole(t, header(api.ICMP, message(t, api.Word{Type: 3, Data: b}))),
		whole(t, header(api.ICMP, message(t, api.Word{Type: 3, Data: b[:30]}))),
		whole(t, header(api.ICMP, message(t, api.Word{Type: 13}))),
		whole(t, part), whole(t, header(2, nil)), nil,
	}
}

// R4: what is handed in is not changed, spare room included; R5: the same bytes are told the same again.
func TestNothingHandedInIsChanged(t *testing.T) {
	for _, s := range samples(t) {
		list, all := roomy(s)
		before := slices.Clone(all)
		f, why := frame.Read(list)
		in, ok := frame.Quote(list)
		if !bytes.Equal(all, before) {
			t.Errorf("%x is changed", s)
		}
		g, again := frame.Read(slices.Clone(s))
		jn, yes := frame.Quote(slices.Clone(s))
		if why != again || !sameFrame(f, g) || in != jn || ok != yes {
			t.Errorf("%x: %v, %d, %v, %v, then %v, %d, %v, %v", s, f, why, in, ok, g, again, jn, yes)
		}
	}
}

// spoil writes over a list and its spare room.
func spoil(list []byte) {
	list = list[:cap(list)]
	for i := range list {
		list[i] ^= 0xff
	}
}

// R4: lists that are answered share memory with nothing: neither with what was handed in, nor with each other.
func TestAnswersAreNewMemory(t *testing.T) {
	for _, s := range samples(t) {
		list, all := roomy(s)
		before := slices.Clone(all)
		f, _ := frame.Read(list)
		options, body := slices.Clone(f.IP.Options), slices.Clone(f.IP.Body)
		spoil(all)
		if !bytes.Equal(f.IP.Options, options) || !bytes.Equal(f.IP.Body, body) {
			t.Errorf("%x: what is answered changes with what was handed in", s)
		}
		copy(all, before)
		spoil(f.IP.Options)
		if !bytes.Equal(all, before) || !bytes.Equal(f.IP.Body, body) {
			t.Errorf("%x: the options share memory", s)
		}
		spoil(f.IP.Body)
		if !bytes.Equal(all, before) {
			t.Errorf("%x: the body shares memory", s)
		}
	}
}

// modelRead answers a frame by the chapters' sentences, one behind the other.
func modelRead(b []byte) (api.Frame, int) {
	p, e := ip.Parse(b)
	why := map[api.Errno]int{api.ErrArg: api.WhyForm, api.ErrShort: api.WhyForm, api.ErrLong: api.WhyForm, api.ErrForm: api.WhyForm, api.ErrSum: api.WhySum}
	if e != api.OK {
		return api.Frame{}, why[e]
	}
	if p.MF || p.Off > 0 {
		return api.Frame{}, api.WhyFragment
	}
	f := api.Frame{IP: p, From: api.End{Addr: p.Src}, To: api.End{Addr: p.Dst}}
	w, ew := icmp.Parse(p.Body)
	u, eu := udp.Parse(p.Src, p.Dst, p.Body)
	s, es := tcp.Parse(p.Src, p.Dst, p.Body)
	if p.Proto != 1 && p.Proto != 6 && p.Proto != 17 {
		return api.Frame{}, api.WhyProto
	}
	if e := map[int]api.Errno{1: ew, 6: es, 17: eu}[p.Proto]; e != api.OK {
		return api.Frame{}, why[e]
	}
	switch p.Proto {
	case 17:
		f.Kind, f.From.Port, f.To.Port = api.KindUDP, u.Src, u.Dst
	case 6:
		f.Kind, f.From.Port, f.To.Port, f.Flags = api.KindTCP, s.Src, s.Dst, s.Flags
	case 1:
		f.Kind = icmp.Kind(w)
		if f.Kind == api.KindNone {
			return api.Frame{}, api.WhyProto
		}
		if f.Kind == api.KindFault {
			in, ok := model(w.Data)
			if !ok {
				return api.Frame{}, api.WhyForm
			}
			f.Inner = in
		} else {
			f.From.Port, f.To.Port = int(w.Rest>>16), int(w.Rest>>16)
		}
	}
	return f, api.WhyNot
}

// P6.1, R1: every cut and every turned bit of the samples, and bytes by chance, against the model.
func TestReadOfAnyBytes(t *testing.T) {
	check := func(b []byte) {
		t.Helper()
		want, wanted := modelRead(b)
		if f, why := frame.Read(b); why != wanted || !sameFrame(f, want) {
			t.Errorf("%x: %v, %d, want %v, %d", b, f, why, want, wanted)
		}
	}
	r := rand.New(rand.NewSource(61))
	samples := samples(t)
	for _, s := range samples {
		for n := range s {
			check(s[:n])
			for bit := range 8 {
				b := turned(s, n, 1<<bit)
				check(b)
				if len(b) >= 20 {
					check(signed(b))
				}
			}
		}
	}
	for range 20000 {
		b := make([]byte, r.Intn(80))
		r.Read(b)
		if len(b) >= 20 {
			b[0], b[2], b[3], b[6], b[7] = 0x45+byte(r.Intn(2)), 0, byte(len(b)), 0, 0
			b[9] = []byte{1, 6, 17, 2}[r.Intn(4)]
			b = signed(b)
		}
		check(b)
	}
	for range 20000 {
		quote := slices.Clone(samples[r.Intn(len(samples))])
		quote = quote[:r.Intn(len(quote)+1)]
		if len(quote) > 0 {
			quote = turned(quote, r.Intn(len(quote)), byte(r.Intn(2))<<r.Intn(8))
		}
		w := api.Word{Type: r.Intn(14), Code: r.Intn(2), Rest: r.Uint32(), Data: quote}
		check(whole(t, header(api.ICMP, message(t, w))))
	}
}

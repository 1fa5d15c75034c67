package ip_test

import (
	"bytes"
	"encoding/binary"
	"encoding/hex"
	"fmt"
	"math"
	"math/rand"
	"net/netip"
	"reflect"
	"slices"
	"strings"
	"testing"

	"bailiwick/api"
	"bailiwick/ip"
)

// roomy gives bytes that have spare room behind them, filled with a mark, and a look at all of it.
func roomy(b ...byte) (list, whole []byte) {
	whole = append(slices.Clone(b), bytes.Repeat([]byte{0xa5}, 64)...)
	return whole[:len(b)], whole
}

// same holds datagrams against each other; nil and an empty list are one.
func same(p, q api.IP) bool {
	if !bytes.Equal(p.Options, q.Options) || !bytes.Equal(p.Body, q.Body) {
		return false
	}
	p.Options, p.Body, q.Options, q.Body = nil, nil, nil, nil
	return reflect.DeepEqual(p, q)
}

// sumOf adds the words of bytes of even length, with the carries.
func sumOf(b []byte) int {
	total := 0
	for i := 0; i < len(b); i += 2 {
		total += int(binary.BigEndian.Uint16(b[i:]))
	}
	for total > 65535 {
		total = total/65536 + total%65536
	}
	return total
}

// signed lays the right check into a header of the given length.
func signed(b []byte, head int) []byte {
	b = slices.Clone(b)
	b[10], b[11] = 0, 0
	binary.BigEndian.PutUint16(b[10:], uint16(65535-sumOf(b[:head])))
	return b
}

// model builds the bytes of a well-formed datagram another way.
func model(p api.IP) []byte {
	head := 20 + len(p.Options)
	b := make([]byte, head)
	b[0] = byte(0x40 + head/4)
	b[1] = byte(p.Tos)
	binary.BigEndian.PutUint16(b[2:], uint16(head+len(p.Body)))
	binary.BigEndian.PutUint16(b[4:], uint16(p.Id))
	word := p.Off
	if p.DF {
		word += 0x4000
	}
	if p.MF {
		word += 0x2000
	}
	binary.BigEndian.PutUint16(b[6:], uint16(word))
	b[8], b[9] = byte(p.TTL), byte(p.Proto)
	binary.BigEndian.PutUint32(b[12:], p.Src)
	binary.BigEndian.PutUint32(b[16:], p.Dst)
	copy(b[20:], p.Options)
	return append(signed(b, head), p.Body...)
}

// random gives a well-formed datagram.
func random(r *rand.Rand) api.IP {
	p := api.IP{
		Tos: r.Intn(256), Id: r.Intn(65536), DF: r.Intn(2) == 0, MF: r.Intn(2) == 0, Off: r.Intn(8192),
		TTL: r.Intn(256), Proto: r.Intn(256), Src: r.Uint32(), Dst: r.Uint32(),
		Options: make([]byte, 4*r.Intn(11)), Body: make([]byte, r.Intn(60)),
	}
	r.Read(p.Options)
	r.Read(p.Body)
	return p
}

// edges lists datagrams with each field at its least and at its most, and lengths at the limits.
func edges() []api.IP {
	return []api.IP{
		{},
		{Tos: 255}, {Id: 65535}, {DF: true}, {MF: true}, {Off: 8191}, {TTL: 255}, {Proto: 255},
		{Src: 1<<32 - 1}, {Dst: 1<<32 - 1}, {Src: 0x01020304, Dst: 0x05060708},
		{Tos: 1, Id: 0x0203, Off: 0x0405, TTL: 6, Proto: 7},
		{Options: []byte{1, 2, 3, 4}}, {Options: bytes.Repeat([]byte{7}, 40)}, {Body: []byte{9}},
		{Body: make([]byte, api.MaxFrame-20)}, {Options: make([]byte, 40), Body: make([]byte, api.MaxFrame-60)},
		{Tos: 255, Id: 65535, DF: true, MF: true, Off: 8191, TTL: 255, Proto: 255, Src: 1<<32 - 1, Dst: 1<<32 - 1,
			Options: bytes.Repeat([]byte{255}, 40), Body: bytes.Repeat([]byte{255}, api.MaxFrame-60)},
	}
}

var example = api.IP{TTL: 64, Proto: 17, Src: 0x0a000001, Dst: 0x08080808}

const exampleBytes = "4500001400000000401160c90a00000108080808"

func exampleList() []byte {
	b, _ := hex.DecodeString(exampleBytes)
	return b
}

// with gives the example with one byte changed.
func with(at int, c byte) []byte {
	b := exampleList()
	b[at] = c
	return b
}

// refused asks that Parse answers the error and nothing beside it.
func refused(t *testing.T, what string, b []byte, want api.Errno) {
	t.Helper()
	p, e := ip.Parse(b)
	if e != want || !same(p, api.IP{}) {
		t.Errorf("%s: %v, %v, want %v", what, p, e, want)
	}
}

// P2.1, P2.2: the chapter's examples.
func TestDatagramsOfTheChapter(t *testing.T) {
	b, e := ip.Build(example)
	if hex.EncodeToString(b) != exampleBytes || e != api.OK {
		t.Errorf("Build = %x, %v", b, e)
	}
	for _, more := range [][]byte{nil, {9}} {
		p, e := ip.Parse(append(exampleList(), more...))
		if !same(p, example) || e != api.OK {
			t.Errorf("Parse, with %v behind = %v, %v", more, p, e)
		}
	}
	refused(t, "19 bytes", exampleList()[:19], api.ErrShort)
	for bit := range 16 {
		refused(t, "a bit of Id turned", with(4+bit/8, 1<<(bit%8)), api.ErrSum)
	}
	refused(t, "six words", with(0, 0x46), api.ErrShort)
}

// P2.1: what stands there, field by field, whatever is behind the total length.
func TestParseTellsTheFields(t *testing.T) {
	r := rand.New(rand.NewSource(1))
	list := edges()
	for range 500 {
		list = append(list, random(r))
	}
	for _, p := range list {
		b := model(p)
		for _, more := range []int{0, 1, 30} {
			if len(b)+more > api.MaxFrame {
				continue
			}
			behind := make([]byte, more)
			r.Read(behind)
			got, e := ip.Parse(append(slices.Clone(b), behind...))
			if !same(got, p) || e != api.OK {
				t.Fatalf("%d bytes behind: %v, %v, want %v", more, got, e, p)
			}
		}
	}
}

// P2.1: each fault by itself, at the edge where it begins.
func TestParseRefuses(t *testing.T) {
	refused(t, "nil", nil, api.ErrShort)
	refused(t, "none", []byte{}, api.ErrShort)
	for n := range 20 {
		refused(t, fmt.Sprint(n, " bytes"), exampleList()[:n], api.ErrShort)
	}
	for v := range byte(16) {
		if v != 4 {
			refused(t, fmt.Sprint("version ", v), signed(with(0, v<<4|5), 20), api.ErrForm)
		}
	}
	for words := range byte(5) {
		refused(t, fmt.Sprint(words, " words"), with(0, 0x40|words), api.ErrForm)
	}
	for words := 6; words <= 15; words++ {
		b := append(with(0, 0x40|byte(words)), make([]byte, 4*words-21)...)
		refused(t, fmt.Sprint(words, " words less a byte"), b, api.ErrShort)
	}
	refused(t, "a total of 19", signed(with(3, 19), 20), api.ErrForm)
	refused(t, "a total of 0", signed(with(3, 0), 20), api.ErrForm)
	refused(t, "a total of 21", signed(with(3, 21), 20), api.ErrShort)
	refused(t, "a total of 65300", signed(with(2, 255), 20), api.ErrShort)
	refused(t, "the highest bit", signed(with(6, 0x80), 20), api.ErrForm)
	refused(t, "zeros", make([]byte, 20), api.ErrForm)
	six := model(api.IP{Options: []byte{1, 2, 3, 4}, Body: []byte("12345678")})
	binary.BigEndian.PutUint16(six[2:], 23)
	refused(t, "a total of 23 with six words", signed(six, 24), api.ErrForm)
	refused(t, "a byte of the body lacks", model(api.IP{Body: []byte("1234")})[:23], api.ErrShort)
	binary.BigEndian.PutUint16(six[2:], 32)
	refused(t, "a check of the first 20 bytes alone", signed(six, 20), api.ErrSum)
	refused(t, "a check of the body too", signed(six, 32), api.ErrSum)
	wrong := model(api.IP{Options: []byte{1, 2, 3, 4}})
	wrong[23]++
	refused(t, "an option is changed", wrong, api.ErrSum)
}

// P2.1: at MaxFrame bytes all is well, one more is too long, whatever the bytes are.
func TestParseAtTheLimit(t *testing.T) {
	b := append(exampleList(), make([]byte, api.MaxFrame-20)...)
	if p, e := ip.Parse(b); !same(p, example) || e != api.OK {
		t.Errorf("MaxFrame bytes: %v, %v", p, e)
	}
	refused(t, "MaxFrame and one more", append(b, 0), api.ErrLong)
	refused(t, "zeros", make([]byte, api.MaxFrame+1), api.ErrLong)
	refused(t, "a megabyte", make([]byte, 1<<20), api.ErrLong)
}

// P2.1: only the header is summed.
func TestParseLetsTheBodyBe(t *testing.T) {
	b := model(api.IP{Body: []byte("body")})
	b[22] ^= 0xff
	if p, e := ip.Parse(b); e != api.OK || p.Body[2] != 'd'^0xff {
		t.Errorf("%v, %v", p, e)
	}
}

// P2.1: of two faults the one that is named first, for each two that are neighbours, and some that are not.
func TestParseTellsTheFirstFault(t *testing.T) {
	long := make([]byte, api.MaxFrame+1)
	refused(t, "long, and no version", long, api.ErrLong)
	refused(t, "short, and no version", make([]byte, 19), api.ErrShort)
	refused(t, "short, and no words", with(0, 0x40)[:19], api.ErrShort)
	refused(t, "no version, and short of its words", with(0, 0x56), api.ErrForm)
	refused(t, "no version, and short of its total", with(0, 0x5f)[:20], api.ErrForm)
	both := with(0, 0x46)
	both[3] = 1
	refused(t, "short of its words, and a total below the header", both, api.ErrShort)
	both = with(0, 0x46)
	both[6] = 0x80
	refused(t, "short of its words, and the highest bit", both, api.ErrShort)
	refused(t, "a total below the header, and a wrong check", with(3, 19), api.ErrForm)
	refused(t, "the highest bit, and a wrong check", with(6, 0x80), api.ErrForm)
	both = with(6, 0x80)
	both[3] = 21
	refused(t, "the highest bit, and short of its total", signed(both, 20), api.ErrForm)
	refused(t, "short of its total, and a wrong check", with(3, 21), api.ErrShort)
	refused(t, "few words, and a wrong check", with(0, 0x44), api.ErrForm)
}

// P2.2: the bytes, against the model.
func TestBuildLaysTheFields(t *testing.T) {
	r := rand.New(rand.NewSource(2))
	list := edges()
	for range 500 {
		list = append(list, random(r))
	}
	for _, p := range list {
		b, e := ip.Build(p)
		if want := model(p); !bytes.Equal(b, want) || e != api.OK {
			t.Fatalf("Build(%v) = %x, %v, want %x", p, b, e, want)
		}
		if head := int(b[0]&15) * 4; sumOf(b[:head]) != 65535 {
			t.Fatalf("Build(%v): the sum is %d", p, sumOf(b[:head]))
		}
	}
}

// P2.2: each number one past its limits, and far past them; each length of options.
func TestBuildRefuses(t *testing.T) {
	fields := []struct {
		name string
		most int
		of   func(p *api.IP) *int
	}{
		{"Tos", 255, func(p *api.IP) *int { return &p.Tos }},
		{"TTL", 255, func(p *api.IP) *int { return &p.TTL }},
		{"Proto", 255, func(p *api.IP) *int { return &p.Proto }},
		{"Id", 65535, func(p *api.IP) *int { return &p.Id }},
		{"Off", 8191, func(p *api.IP) *int { return &p.Off }},
	}
	for _, f := range fields {
		for _, x := range []int{-1, f.most + 1, 65536, 1 << 32, math.MinInt, math.MaxInt} {
			// A body that is too long beside it: what is wrong with an argument is told first.
			for _, n := range []int{0, api.MaxFrame} {
				p := example
				p.Body = make([]byte, n)
				*f.of(&p) = x
				if b, e := ip.Build(p); len(b) != 0 || e != api.ErrArg {
					t.Errorf("%s %d: %x, %v", f.name, x, b, e)
				}
			}
		}
	}
	for n := range 100 {
		b, e := ip.Build(api.IP{Options: make([]byte, n)})
		if n <= 40 && n%4 == 0 {
			if len(b) != 20+n || e != api.OK {
				t.Errorf("options of %d bytes: %x, %v", n, b, e)
			}
		} else if len(b) != 0 || e != api.ErrArg {
			t.Errorf("options of %d bytes: %x, %v", n, b, e)
		}
	}
	for _, n := range []int{3, 44, 5000} {
		if b, e := ip.Build(api.IP{Options: make([]byte, n), Body: make([]byte, 5000)}); len(b) != 0 || e != api.ErrArg {
			t.Errorf("options of %d bytes and a long body: %x, %v", n, b, e)
		}
	}
}

// P2.2: at MaxFrame bytes in all it is well, one more is too long, with options and without.
func TestBuildAtTheLimit(t *testing.T) {
	for options := 0; options <= 40; options += 4 {
		p := api.IP{Options: make([]byte, options), Body: make([]byte, api.MaxFrame-20-options)}
		if b, e := ip.Build(p); len(b) != api.MaxFrame || e != api.OK {
			t.Errorf("%d bytes of options: %d bytes, %v", options, len(b), e)
		}
		p.Body = append(p.Body, 0)
		if b, e := ip.Build(p); len(b) != 0 || e != api.ErrLong {
			t.Errorf("%d bytes of options, one too many: %d bytes, %v", options, len(b), e)
		}
	}
	if b, e := ip.Build(api.IP{Body: make([]byte, 1<<20)}); len(b) != 0 || e != api.ErrLong {
		t.Errorf("a megabyte: %d bytes, %v", len(b), e)
	}
}

// P2.3: the chapter's examples, the edges, and each byte at each place.
func TestShow(t *testing.T) {
	cases := []struct {
		a    uint32
		want string
	}{
		{167772161, "10.0.0.1"}, {0, "0.0.0.0"}, {1, "0.0.0.1"}, {256, "0.0.1.0"}, {1<<32 - 1, "255.255.255.255"},
		{0x01020304, "1.2.3.4"}, {0x7f000001, "127.0.0.1"}, {0x80000000, "128.0.0.0"},
	}
	for _, c := range cases {
		if got := ip.Show(c.a); got != c.want {
			t.Errorf("Show(%d) = %q, want %q", c.a, got, c.want)
		}
	}
}

// P2.3: Read is Show's way back.
func TestReadOfShow(t *testing.T) {
	r := rand.New(rand.NewSource(3))
	list := []uint32{0, 1<<32 - 1, 167772161}
	for c := range uint32(256) {
		list = append(list, c, c<<8, c<<16, c<<24)
	}
	for range 2000 {
		list = append(list, r.Uint32())
	}
	for _, a := range list {
		var four [4]byte
		binary.BigEndian.PutUint32(four[:], a)
		s := ip.Show(a)
		if want := netip.AddrFrom4(four).String(); s != want {
			t.Fatalf("Show(%d) = %q, want %q", a, s, want)
		}
		if got, ok := ip.Read(s); got != a || !ok {
			t.Fatalf("Read(%q) = %d, %v, want %d", s, got, ok, a)
		}
	}
}

// P2.3: other spellings, and what is no address.
func TestReadRefuses(t *testing.T) {
	list := []string{
		"", ".", "..", "...", "....", "1", "1.2", "1.2.3", "1.2.3.", ".1.2.3", "1..2.3", "1.2.3.4.", ".1.2.3.4", "1.2.3.4.5",
		"10.0.0.01", "00.0.0.0", "0.0.0.00", "010.0.0.1", "1.2.3.004", "256.1.1.1", "1.256.1.1", "1.1.256.1", "1.1.1.256", "1.1.1.300",
		"1.1.1.1000", "4294967296.1.1.1", "99999999999999999999.1.1.1", "+1.2.3.4", "1.2.3.+4", "-1.2.3.4", "-0.0.0.0", "1.2.3.-4",
		" 1.2.3.4", "1.2.3.4 ", "1. 2.3.4", "1.2.3.4\n", "1.2.3.4\x00", "1.2.3.a", "a.b.c.d", "0x1.2.3.4", "1_0.0.0.1", "1e1.0.0.1",
		"1,2,3,4", "1.2.3,4", "1.2.3.4/8", "1.2.3.4:5", "::1", "١.2.3.4", "\xff.2.3.4", "167772161",
		strings.Repeat(".", 5000), strings.Repeat("1", 5000), strings.Repeat("1.", 5000), strings.Repeat("0", 5000) + "1.2.3.4",
	}
	for _, s := range list {
		if got, ok := ip.Read(s); got != 0 || ok {
			t.Errorf("Read(%q) = %d, %v", s, got, ok)
		}
	}
}

// P2.3: any text is taken just where Show says it of what is answered.
func TestReadIsStrict(t *testing.T) {
	r := rand.New(rand.NewSource(4))
	const letters = "0123456789..00 +-x"
	taken := 0
	for range 200000 {
		s := []byte(ip.Show(r.Uint32() >> r.Intn(32)))
		s[r.Intn(len(s))] = letters[r.Intn(len(letters))]
		got, ok := ip.Read(string(s))
		want, err := netip.ParseAddr(string(s))
		if ok != (err == nil && want.Is4()) || ok && ip.Show(got) != string(s) || !ok && got != 0 {
			t.Fatalf("Read(%q) = %d, %v", s, got, ok)
		}
		if ok {
			taken++
		}
	}
	if taken == 0 {
		t.Error("none was taken")
	}
}

// P2.4: Parse of Build is p, and Build of what Parse told are the bytes up to the total length.
func TestThereAndBack(t *testing.T) {
	r := rand.New(rand.NewSource(5))
	list := edges()
	for range 500 {
		list = append(list, random(r))
	}
	for _, p := range list {
		b, _ := ip.Build(p)
		got, e := ip.Parse(b)
		if !same(got, p) || e != api.OK {
			t.Fatalf("Parse of Build(%v) = %v, %v", p, got, e)
		}
		more := append(slices.Clone(b), 1, 2, 3)
		if len(more) > api.MaxFrame {
			continue
		}
		got, _ = ip.Parse(more)
		again, e := ip.Build(got)
		if !bytes.Equal(again, b) || e != api.OK {
			t.Fatalf("Build of Parse(%x) = %x, %v", more, again, e)
		}
	}
}

// P2.4: a check of 65535 is taken where the rest sums to 65535 too, and is 0 behind Build.
func TestCheckOfOnes(t *testing.T) {
	p := api.IP{TTL: 64, Proto: 17, Src: 0x0a000001, Dst: 0x08080808, Body: []byte("body")}
	b := model(p)
	// Id takes up what the check said, so that a check of 0 is right.
	p.Id = int(binary.BigEndian.Uint16(b[10:]))
	zero := model(p)
	if zero[10] != 0 || zero[11] != 0 {
		t.Fatalf("the check is not 0: %x", zero)
	}
	ones := slices.Clone(zero)
	ones[10], ones[11] = 255, 255
	got, e := ip.Parse(ones)
	if !same(got, p) || e != api.OK {
		t.Errorf("Parse = %v, %v", got, e)
	}
	again, e := ip.Build(got)
	if !bytes.Equal(again, zero) || e != api.OK {
		t.Errorf("Build of it = %x, %v, want %x", again, e, zero)
	}
	wrong := with(10, 255)
	wrong[11] = 255
	refused(t, "a check of 65535 that is wrong", wrong, api.ErrSum)
}

// P2.4: each bit of the header, but the lower four of its first byte.
func TestOneBitTurned(t *testing.T) {
	r := rand.New(rand.NewSource(6))
	list := edges()
	for range 100 {
		list = append(list, random(r))
	}
	for _, p := range list {
		b, _ := ip.Build(p)
		head := 20 + len(p.Options)
		for bit := range 8 * head {
			if bit < 4 {
				continue
			}
			b[bit/8] ^= 1 << (bit % 8)
			if got, e := ip.Parse(b); e == api.OK || !same(got, api.IP{}) {
				t.Fatalf("%v, bit %d of byte %d: %v, %v", p, bit%8, bit/8, got, e)
			}
			b[bit/8] ^= 1 << (bit % 8)
		}
	}
}

// R4: what is handed in stays, its spare room too; answers share no memory with it, nor with each other.
func TestMemory(t *testing.T) {
	b, whole := roomy(model(api.IP{Options: []byte{1, 2, 3, 4}, Body: []byte("body")})...)
	was := slices.Clone(whole)
	one, _ := ip.Parse(b)
	two, _ := ip.Parse(b)
	for _, list := range [][]byte{one.Options, one.Body} {
		full := list[:cap(list)]
		for i := range full {
			full[i] = 77
		}
		_ = append(list, 78, 79)
	}
	if !bytes.Equal(one.Options, []byte{77, 77, 77, 77}) || !bytes.Equal(one.Body, []byte{77, 77, 77, 77}) {
		t.Errorf("the lists of one answer share memory: %v", one)
	}
	if !bytes.Equal(whole, was) || !bytes.Equal(two.Options, []byte{1, 2, 3, 4}) || string(two.Body) != "body" {
		t.Errorf("what was handed in, or another answer, is changed: %v, %v", whole, two)
	}
	clear(b)
	if string(two.Body) != "body" || !bytes.Equal(two.Options, []byte{1, 2, 3, 4}) {
		t.Errorf("the answer follows what was handed in: %v", two)
	}
}

// R4: the same for Build.
func TestMemoryOfBuild(t *testing.T) {
	options, optionsWhole := roomy(1, 2, 3, 4)
	body, bodyWhole := roomy([]byte("body")...)
	optionsWas, bodyWas := slices.Clone(optionsWhole), slices.Clone(bodyWhole)
	cases := []api.IP{
		{Options: options, Body: body}, {Body: body}, {Options: options},
		{Options: options, Body: body, Tos: 256}, {Options: options[:3], Body: body},
	}
	for _, p := range cases {
		one, _ := ip.Build(p)
		two, _ := ip.Build(p)
		was := slices.Clone(two)
		for i := range one[:cap(one)] {
			one[:cap(one)][i] = 77
		}
		if !bytes.Equal(optionsWhole, optionsWas) || !bytes.Equal(bodyWhole, bodyWas) {
			t.Errorf("what was handed in is changed: %v, %v", optionsWhole, bodyWhole)
		}
		if !bytes.Equal(two, was) {
			t.Errorf("another answer is changed: %v", two)
		}
	}
}

// R1: bytes of any kind, many of them near to a datagram.
func TestParseTakesAnything(t *testing.T) {
	r := rand.New(rand.NewSource(7))
	for range 50000 {
		b := make([]byte, r.Intn(70))
		r.Read(b)
		if len(b) > 0 && r.Intn(4) > 0 {
			b[0] = 0x40 | b[0]&15
		}
		if len(b) > 3 && r.Intn(4) > 0 {
			b[2], b[3] = 0, byte(r.Intn(70))
		}
		if len(b) >= 20 && r.Intn(2) > 0 {
			if head := int(b[0]&15) * 4; head >= 20 && head <= len(b) {
				b = signed(b, head)
			}
		}
		p, e := ip.Parse(b)
		if e != api.OK {
			if !same(p, api.IP{}) {
				t.Fatalf("%x: %v beside %v", b, p, e)
			}
			continue
		}
		again, _ := ip.Build(p)
		want := slices.Clone(b[:len(again)])
		if want[10] == 255 && want[11] == 255 {
			want[10], want[11] = 0, 0
		}
		if !bytes.Equal(again, want) {
			t.Fatalf("%x: built again %x", b, again)
		}
	}
}

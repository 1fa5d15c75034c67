package tcp_test

import (
	"bytes"
	"encoding/binary"
	"encoding/hex"
	"fmt"
	"math"
	"math/rand"
	"reflect"
	"slices"
	"testing"

	"bailiwick/api"
	"bailiwick/tcp"
)

const (
	one = 0x01010101
	two = 0x02020202
)

var example = api.Piece{Src: 5, Dst: 21, Seq: 1, Flags: api.SYN}

// The check by hand: 0101 + 0101 + 0202 + 0202 + 0006 + 0014 + 0005 + 0015 + 0001 + 5002 = 563d, turned.
const exampleBytes = "000500150000000100000000" + "50020000a9c20000"

func exampleList() []byte {
	b, _ := hex.DecodeString(exampleBytes)
	return b
}

// with gives the example with one byte changed.
func with(at int, c byte) []byte {
	b := exampleList()
	b[at] = c
	return b
}

// full is a segment in which each byte of each field is another one.
var full = api.Piece{
	Src: 0x0102, Dst: 0x0304, Seq: 0x05060708, Ack: 0x090a0b0c, Flags: 0xd7, Window: 0x0e0f, Urgent: 0x1213,
	Options: []byte{21, 22, 23, 24, 25, 26, 27, 28}, Data: []byte("odd"),
}

// roomy gives bytes that have spare room behind them, filled with a mark, and a look at all of it.
func roomy(b ...byte) (list, whole []byte) {
	whole = append(slices.Clone(b), bytes.Repeat([]byte{0xa5}, 64)...)
	return whole[:len(b)], whole
}

// same holds segments against each other; nil and an empty list are one.
func same(p, q api.Piece) bool {
	if !bytes.Equal(p.Options, q.Options) || !bytes.Equal(p.Data, q.Data) {
		return false
	}
	p.Options, p.Data, q.Options, q.Data = nil, nil, nil, nil
	return reflect.DeepEqual(p, q)
}

// sumOf adds the words of the bytes, with the carries.
func sumOf(b []byte) int {
	if len(b)%2 == 1 {
		b = append(slices.Clone(b), 0)
	}
	total := 0
	for i := 0; i < len(b); i += 2 {
		total += int(binary.BigEndian.Uint16(b[i:]))
	}
	for total > 65535 {
		total = total/65536 + total%65536
	}
	return total
}

// pseudo is the pseudo header of a protocol and a length.
func pseudo(src, dst uint32, proto, n int) []byte {
	var h [12]byte
	binary.BigEndian.PutUint32(h[0:], src)
	binary.BigEndian.PutUint32(h[4:], dst)
	h[9] = byte(proto)
	binary.BigEndian.PutUint16(h[10:], uint16(n))
	return h[:]
}

// signed lays the right check.
func signed(src, dst uint32, b []byte) []byte {
	b = slices.Clone(b)
	b[16], b[17] = 0, 0
	check := 65535 - sumOf(append(pseudo(src, dst, 6, len(b)), b...))
	binary.BigEndian.PutUint16(b[16:], uint16(check))
	return b
}

// model builds the bytes of a well-formed segment another way.
func model(src, dst uint32, p api.Piece) []byte {
	b := make([]byte, 20)
	binary.BigEndian.PutUint16(b[0:], uint16(p.Src))
	binary.BigEndian.PutUint16(b[2:], uint16(p.Dst))
	binary.BigEndian.PutUint32(b[4:], p.Seq)
	binary.BigEndian.PutUint32(b[8:], p.Ack)
	b[12] = byte(16 * (5 + len(p.Options)/4))
	b[13] = byte(p.Flags)
	binary.BigEndian.PutUint16(b[14:], uint16(p.Window))
	binary.BigEndian.PutUint16(b[18:], uint16(p.Urgent))
	b = append(b, p.Options...)
	return signed(src, dst, append(b, p.Data...))
}

// random gives a well-formed segment, with data of even and of odd length.
func random(r *rand.Rand) api.Piece {
	p := api.Piece{
		Src: r.Intn(65536), Dst: r.Intn(65536), Seq: r.Uint32(), Ack: r.Uint32(), Flags: r.Intn(256),
		Window: r.Intn(65536), Urgent: r.Intn(65536),
		Options: make([]byte, 4*r.Intn(11)), Data: make([]byte, r.Intn(60)),
	}
	r.Read(p.Options)
	r.Read(p.Data)
	return p
}

// edges lists segments with each field at its least and at its most, and lengths at the limits.
func edges() []api.Piece {
	const all = 1<<32 - 1
	return []api.Piece{
		{}, example, full,
		{Src: 65535}, {Dst: 65535}, {Seq: all}, {Ack: all}, {Seq: 1 << 31}, {Ack: 1 << 31},
		{Flags: 255}, {Window: 65535}, {Urgent: 65535},
		{Flags: api.FIN}, {Flags: api.RST}, {Flags: api.PSH}, {Flags: api.ACK}, {Flags: 32}, {Flags: 64}, {Flags: 128},
		{Data: []byte{1}}, {Data: []byte{255}}, {Data: []byte{1, 2}}, {Data: []byte{0, 0, 0}},
		{Options: make([]byte, 4)}, {Options: []byte{1, 2, 3, 4}, Data: []byte{5}}, {Options: bytes.Repeat([]byte{7}, 40)},
		{Data: make([]byte, api.MaxFrame-40)}, {Data: make([]byte, api.MaxFrame-41)},
		{Options: make([]byte, 40), Data: make([]byte, api.MaxFrame-80)},
		{Src: 65535, Dst: 65535, Seq: all, Ack: all, Flags: 255, Window: 65535, Urgent: 65535,
			Options: bytes.Repeat([]byte{255}, 40), Data: bytes.Repeat([]byte{255}, api.MaxFrame-80)},
	}
}

// many lists the edges and random ones.
func many(r *rand.Rand) []api.Piece {
	list := edges()
	for range 500 {
		list = append(list, random(r))
	}
	return list
}

// addresses lists pairs of them, each half and each byte told apart.
func addresses() [][2]uint32 {
	const all = 1<<32 - 1
	return [][2]uint32{{one, two}, {0, 0}, {all, all}, {0x01020304, 0x05060708}, {all, 0}, {0, all}, {0x80000000, 1}}
}

// parsed asks that Parse answers the segment.
func parsed(t *testing.T, what string, src, dst uint32, b []byte, want api.Piece) {
	t.Helper()
	p, e := tcp.Parse(src, dst, b)
	if e != api.OK || !same(p, want) {
		t.Errorf("%s: %v, %v, want %v", what, p, e, want)
	}
}

// refused asks that Parse, from 1.1.1.1 to 2.2.2.2, answers the error and nothing beside it.
func refused(t *testing.T, what string, b []byte, want api.Errno) {
	t.Helper()
	p, e := tcp.Parse(one, two, b)
	if e != want || !same(p, api.Piece{}) {
		t.Errorf("%s: %v, %v, want %v", what, p, e, want)
	}
}

// unbuilt asks that Build answers the error and nothing beside it.
func unbuilt(t *testing.T, what string, p api.Piece, want api.Errno) {
	t.Helper()
	if b, e := tcp.Build(one, two, p); e != want || len(b) != 0 {
		t.Errorf("%s: %d bytes, %v, want %v", what, len(b), e, want)
	}
}

// P4.1, P4.2: the chapter's examples, and the example's check worked out by hand.
func TestExamplesOfTheChapter(t *testing.T) {
	b, e := tcp.Build(one, two, example)
	if hex.EncodeToString(b) != exampleBytes || e != api.OK {
		t.Errorf("Build = %x, %v, want %s", b, e, exampleBytes)
	}
	parsed(t, "the example", one, two, exampleList(), example)
	refused(t, "with byte 12 51", with(12, 0x51), api.ErrForm)
	refused(t, "with byte 12 60", with(12, 0x60), api.ErrShort)
}

// P4.1, P4.2: where each byte of each field stands, written out.
func TestPlacesOfTheFields(t *testing.T) {
	const head = "0102030405060708090a0b0c70d70e0f"
	const rest = "1213" + "15161718191a1b1c" + "6f6464"
	b, e := tcp.Build(one, two, full)
	got := hex.EncodeToString(b)
	if e != api.OK || len(got) != len(head)+4+len(rest) || got[:32] != head || got[36:] != rest {
		t.Errorf("Build = %s, %v", got, e)
	}
	list, _ := hex.DecodeString(head + "0000" + rest)
	parsed(t, "the bytes", one, two, signed(one, two, list), full)
}

// P4.1: what stands there, field by field, for all addresses.
func TestParseTellsTheFields(t *testing.T) {
	for _, p := range many(rand.New(rand.NewSource(1))) {
		for _, a := range addresses() {
			parsed(t, fmt.Sprint(a), a[0], a[1], model(a[0], a[1], p), p)
		}
	}
}

// P4.1: each flag and each set of flags, by every number that a byte has.
func TestParseTellsAllFlags(t *testing.T) {
	for flags := range 256 {
		p := full
		p.Flags = flags
		parsed(t, fmt.Sprint("flags ", flags), one, two, model(one, two, p), p)
	}
}

// P4.1: every number of words, over bytes that end ahead of the header's end, at it and behind it.
func TestParseOfTheHeadersLength(t *testing.T) {
	data := make([]byte, 70)
	rand.New(rand.NewSource(2)).Read(data)
	for words := range 16 {
		for n := 20; n <= 64; n++ {
			b := append(exampleList(), data[:n-20]...)
			b[12] = byte(words << 4)
			b = signed(one, two, b)
			what := fmt.Sprint(words, " words of ", n, " bytes")
			switch {
			case words < 5:
				refused(t, what, b, api.ErrForm)
			case 4*words > n:
				refused(t, what, b, api.ErrShort)
			default:
				want := example
				want.Options, want.Data = data[:4*words-20], data[4*words-20:n-20]
				parsed(t, what, one, two, b, want)
			}
		}
	}
}

// P4.1: each of the 4 bits behind the header's words, alone and with others, though the check is right.
func TestParseOfTheFourBits(t *testing.T) {
	for words := 5; words <= 15; words++ {
		p := full
		p.Options = make([]byte, 4*words-20)
		for spare := 1; spare < 16; spare++ {
			b := model(one, two, p)
			b[12] |= byte(spare)
			refused(t, fmt.Sprint(words, " words, spare bits ", spare), signed(one, two, b), api.ErrForm)
		}
	}
}

// P4.1: each fault by itself, at the edge where it begins.
func TestParseRefuses(t *testing.T) {
	refused(t, "nil", nil, api.ErrShort)
	for n := range 20 {
		refused(t, fmt.Sprint(n, " bytes"), exampleList()[:n], api.ErrShort)
	}
	refused(t, "zeros", make([]byte, 20), api.ErrForm)
	refused(t, "20 bytes of ones", bytes.Repeat([]byte{255}, 20), api.ErrForm)
	refused(t, "a byte 0 behind", append(exampleList(), 0), api.ErrSum)
	refused(t, "another byte behind", append(exampleList(), 7), api.ErrSum)
	refused(t, "a check of 0", signedZero(), api.ErrSum)
	wrong := with(16, 255)
	wrong[17] = 255
	refused(t, "a check of 65535 that is wrong", wrong, api.ErrSum)
}

// signedZero gives the example with a check of 0: of TCP it says no more than any other.
func signedZero() []byte {
	b := exampleList()
	b[16], b[17] = 0, 0
	return b
}

// P4.1: each bit of the bytes, of the addresses, and the protocol and the length are under the check.
func TestParseFindsOneBit(t *testing.T) {
	for _, b := range [][]byte{exampleList(), model(one, two, full)} {
		for bit := range 8 * len(b) {
			if bit/8 == 12 {
				continue // it has faults of its own
			}
			c := slices.Clone(b)
			c[bit/8] ^= 1 << (bit % 8)
			refused(t, fmt.Sprint("bit ", bit), c, api.ErrSum)
		}
	}
	for bit := range 32 {
		for _, a := range [][2]uint32{{one ^ 1<<bit, two}, {one, two ^ 1<<bit}} {
			if p, e := tcp.Parse(a[0], a[1], exampleList()); e != api.ErrSum || !same(p, api.Piece{}) {
				t.Errorf("%x: %v, %v", a, p, e)
			}
		}
	}
	under := func(h []byte) []byte {
		b := signedZero()
		binary.BigEndian.PutUint16(b[16:], uint16(65535-sumOf(append(h, b...))))
		return b
	}
	for _, proto := range []int{0, 1, 5, 7, 17} {
		refused(t, fmt.Sprint("the check of protocol ", proto), under(pseudo(one, two, proto, 20)), api.ErrSum)
	}
	for _, n := range []int{0, 19, 21, 40} {
		refused(t, fmt.Sprint("the check of a length of ", n), under(pseudo(one, two, 6, n)), api.ErrSum)
	}
	refused(t, "a check without the pseudo header", under(nil), api.ErrSum)
}

// P4.1: of two faults the one that is named first.
func TestParseTellsTheFirstFault(t *testing.T) {
	refused(t, "19 bytes, and no words", make([]byte, 19), api.ErrShort)
	refused(t, "19 bytes, and a spare bit", with(12, 0x51)[:19], api.ErrShort)
	refused(t, "13 bytes, and 15 words", with(12, 0xf0)[:13], api.ErrShort)
	refused(t, "4 words, and a wrong check", with(12, 0x40), api.ErrForm)
	refused(t, "4 words, and a spare bit", with(12, 0x48), api.ErrForm)
	refused(t, "a spare bit, and a wrong check", with(12, 0x58), api.ErrForm)
	refused(t, "a spare bit, and bytes that end ahead", with(12, 0xf1), api.ErrForm)
	refused(t, "bytes that end ahead, and a wrong check", with(12, 0xf0), api.ErrShort)
	refused(t, "6 words of 23 bytes, and a wrong check", append(with(12, 0x60), 1, 2, 3), api.ErrShort)
	refused(t, "6 words of 24 bytes, and a wrong check", append(with(12, 0x60), 1, 2, 3, 4), api.ErrSum)
}

// P4.1: no length is too great: the limit is Build's alone. Of a length beyond 16 bits the lowest count.
func TestParseTakesTheLongest(t *testing.T) {
	data := make([]byte, 70000)
	rand.New(rand.NewSource(3)).Read(data)
	for _, n := range []int{api.MaxFrame - 40, api.MaxFrame - 39, api.MaxFrame, 65515, 65516, 65517, 70000} {
		p := full
		p.Options, p.Data = nil, data[:n]
		parsed(t, fmt.Sprint(n), one, two, model(one, two, p), p)
	}
}

// P4.2: the bytes, against the model, for all addresses.
func TestBuildLaysTheFields(t *testing.T) {
	for _, p := range many(rand.New(rand.NewSource(4))) {
		for _, a := range addresses() {
			b, e := tcp.Build(a[0], a[1], p)
			if want := model(a[0], a[1], p); !bytes.Equal(b, want) || e != api.OK {
				t.Fatalf("Build(%x, %v) = %x, %v, want %x", a, p, b, e, want)
			}
		}
	}
}

// changed gives the full segment with one field set, and with a length that is well or past its limit.
func changed(n int, set func(*api.Piece)) api.Piece {
	p := full
	p.Data = make([]byte, n)
	set(&p)
	return p
}

// P4.2: numbers past their limits, by one and by far; they are told ahead of a length past its own.
func TestBuildRefusesNumbers(t *testing.T) {
	words := map[string]func(*api.Piece, int){
		"Src":    func(p *api.Piece, x int) { p.Src = x },
		"Dst":    func(p *api.Piece, x int) { p.Dst = x },
		"Window": func(p *api.Piece, x int) { p.Window = x },
		"Urgent": func(p *api.Piece, x int) { p.Urgent = x },
	}
	flags := func(p *api.Piece, x int) { p.Flags = x }
	far := []int{-1, -2, -255, -256, -65535, -65536, 65536, 65536 + 53, 1 << 32, math.MinInt, math.MaxInt}
	for _, n := range []int{0, api.MaxFrame} {
		for _, x := range far {
			for name, set := range words {
				unbuilt(t, fmt.Sprint(name, " ", x), changed(n, func(p *api.Piece) { set(p, x) }), api.ErrArg)
			}
		}
		for _, x := range append(far, 256, 257, 511, 512, 4096, 32768, 65535) {
			unbuilt(t, fmt.Sprint("Flags ", x), changed(n, func(p *api.Piece) { flags(p, x) }), api.ErrArg)
		}
	}
}

// P4.2: options of every length: whole words up to 40 bytes are well, all others are not, whatever else is wrong.
func TestBuildOfOptions(t *testing.T) {
	for n := range 130 {
		p := changed(3, func(p *api.Piece) { p.Options = bytes.Repeat([]byte{9}, n) })
		if n > 40 || n%4 != 0 {
			unbuilt(t, fmt.Sprint(n, " bytes of options"), p, api.ErrArg)
			p.Data = make([]byte, api.MaxFrame)
			unbuilt(t, fmt.Sprint(n, " bytes of options, and too much data"), p, api.ErrArg)
			continue
		}
		b, e := tcp.Build(one, two, p)
		if e != api.OK || len(b) != 23+n || int(b[12]) != 16*(5+n/4) || !bytes.Equal(b, model(one, two, p)) {
			t.Errorf("%d bytes of options: %x, %v", n, b, e)
		}
	}
	for _, n := range []int{256, 1024, api.MaxFrame, 65536, 1 << 20} {
		unbuilt(t, fmt.Sprint(n, " bytes of options"), api.Piece{Options: make([]byte, n)}, api.ErrArg)
	}
}

// P4.2: at MaxFrame - 20 bytes in all it is well, one more is too long; the options count.
func TestBuildAtTheLimit(t *testing.T) {
	for words := range 11 {
		p := full
		p.Options = make([]byte, 4*words)
		room := api.MaxFrame - 40 - 4*words
		for _, n := range []int{room - 1, room} {
			p.Data = make([]byte, n)
			if b, e := tcp.Build(one, two, p); len(b) != 20+4*words+n || e != api.OK {
				t.Errorf("%d words, %d bytes of data: %d bytes, %v", words, n, len(b), e)
			}
		}
		for _, n := range []int{room + 1, room + 2, api.MaxFrame, 65516, 65536, 65536 + 10, 1 << 20} {
			p.Data = make([]byte, n)
			unbuilt(t, fmt.Sprint(words, " words, ", n, " bytes of data"), p, api.ErrLong)
		}
	}
}

// zeroed gives segments of which the right check is 0.
func zeroed() []api.Piece {
	var list []api.Piece
	for _, data := range [][]byte{nil, {1}, []byte("even"), []byte("odd")} {
		p := full
		p.Data, p.Window = data, 0
		// Window takes up what the check said, so that the check is 0 then.
		p.Window = int(binary.BigEndian.Uint16(model(one, two, p)[16:]))
		list = append(list, p)
	}
	return list
}

// P4.2: a check that is 0 stands so; it is not turned to 65535, as UDP's is.
func TestBuildOfACheckOfZero(t *testing.T) {
	for _, p := range zeroed() {
		b, e := tcp.Build(one, two, p)
		if e != api.OK || b[16] != 0 || b[17] != 0 {
			t.Errorf("%v: %x, %v, want a check of 0", p, b, e)
			continue
		}
		if sum := sumOf(append(pseudo(one, two, 6, len(b)), b...)); sum != 65535 {
			t.Errorf("%v: the sum is %d", p, sum)
		}
		parsed(t, "a check of 0", one, two, b, p)
	}
}

// P4.3: a check of 65535 where 0 is right is read, and is 0 when it is built again.
func TestCheckOfAllOnes(t *testing.T) {
	for _, p := range zeroed() {
		b := model(one, two, p)
		b[16], b[17] = 255, 255
		parsed(t, "a check of 65535", one, two, b, p)
		q, _ := tcp.Parse(one, two, b)
		again, e := tcp.Build(one, two, q)
		b[16], b[17] = 0, 0
		if e != api.OK || !bytes.Equal(again, b) {
			t.Errorf("built again: %x, %v, want %x", again, e, b)
		}
		for _, at := range []int{16, 17} {
			half := slices.Clone(b)
			half[at] = 255
			refused(t, "half a check of 65535", half, api.ErrSum)
		}
	}
}

// P4.3: Parse of Build is p, and Build of what Parse told are the bytes.
func TestThereAndBack(t *testing.T) {
	for _, p := range many(rand.New(rand.NewSource(5))) {
		for _, a := range addresses() {
			b, e := tcp.Build(a[0], a[1], p)
			if e != api.OK {
				t.Fatalf("Build(%v): %v", p, e)
			}
			parsed(t, "Parse of Build", a[0], a[1], b, p)
			given := model(a[0], a[1], p)
			q, _ := tcp.Parse(a[0], a[1], given)
			if again, e := tcp.Build(a[0], a[1], q); e != api.OK || !bytes.Equal(again, given) {
				t.Fatalf("Build of Parse: %x, %v, want %x", again, e, given)
			}
		}
	}
}

// P4.3: every check there is, 0 among them, by every number of Window: 65535 is never built.
func TestThereAndBackOfAllChecks(t *testing.T) {
	zeros := 0
	for x := range 65536 {
		p := api.Piece{Src: 5, Dst: 21, Seq: 1, Flags: api.ACK, Window: x, Data: []byte{9}}
		b, e := tcp.Build(one, two, p)
		if e != api.OK || b[16] == 255 && b[17] == 255 {
			t.Fatalf("Build(%v) = %x, %v", p, b, e)
		}
		if b[16] == 0 && b[17] == 0 {
			zeros++
		}
		parsed(t, "Parse of Build", one, two, b, p)
	}
	if zeros != 1 {
		t.Errorf("a check of 0 came %d times", zeros)
	}
}

// spoil writes over all of a list that was answered, its spare room too.
func spoil(b []byte) {
	for i := range b[:cap(b)] {
		b[:cap(b)][i] = 77
	}
}

// R4: what is handed in stays, its spare room too; answers share no memory with it, nor with each other.
func TestMemoryOfParse(t *testing.T) {
	bare, short := full, full
	bare.Data = nil
	short.Options = nil
	for _, p := range []api.Piece{example, full, bare, short} {
		b, whole := roomy(model(one, two, p)...)
		was := slices.Clone(whole)
		first, e := tcp.Parse(one, two, b)
		second, _ := tcp.Parse(one, two, b)
		if e != api.OK {
			t.Fatalf("%v: %v", p, e)
		}
		spoil(first.Options)
		if !bytes.Equal(first.Data, p.Data) {
			t.Errorf("Options and Data share memory: %v", first)
		}
		spoil(first.Data)
		_, _ = append(first.Options, 78), append(first.Data, 79)
		if !bytes.Equal(whole, was) {
			t.Errorf("what was handed in is changed: %v", whole)
		}
		clear(whole)
		if !same(second, p) {
			t.Errorf("the answer follows what was handed in, or another answer: %v", second)
		}
	}
	for _, b := range [][]byte{exampleList()[:19], with(12, 0x51), with(12, 0x60), with(13, 3)} {
		b, whole := roomy(b...)
		was := slices.Clone(whole)
		tcp.Parse(one, two, b)
		if !bytes.Equal(whole, was) {
			t.Errorf("what was handed in and refused is changed: %v", whole)
		}
	}
}

// R4: the same for Build.
func TestMemoryOfBuild(t *testing.T) {
	// Options with the data right behind them: they may not run over into it.
	list, whole := roomy([]byte("12345678data")...)
	was := slices.Clone(whole)
	options, data := list[:8], list[8:]
	for _, p := range []api.Piece{
		{Options: options, Data: data}, {Options: options}, {Data: data}, {Options: options[:4], Data: data[:3]},
		{Options: options[:0], Data: data[:0]}, {Options: options, Data: options},
		{Src: -1, Options: options, Data: data}, {Options: options[:3], Data: data},
	} {
		first, _ := tcp.Build(one, two, p)
		second, _ := tcp.Build(one, two, p)
		before := slices.Clone(second)
		spoil(first)
		if !bytes.Equal(whole, was) {
			t.Errorf("what was handed in is changed: %v", whole)
		}
		if !bytes.Equal(second, before) {
			t.Errorf("another answer is changed: %v", second)
		}
	}
	built, _ := tcp.Build(one, two, api.Piece{Options: options, Data: data})
	clear(whole)
	if string(built[20:]) != "12345678data" {
		t.Errorf("the answer follows what was handed in: %v", built)
	}
}

// faultOf says, in the chapter's own order, what Parse answers of b.
func faultOf(src, dst uint32, b []byte) api.Errno {
	if len(b) < 20 {
		return api.ErrShort
	}
	words := int(b[12]) / 16
	if words < 5 || b[12]%16 != 0 {
		return api.ErrForm
	}
	if 4*words > len(b) {
		return api.ErrShort
	}
	if sumOf(append(pseudo(src, dst, 6, len(b)), b...)) != 65535 {
		return api.ErrSum
	}
	return api.OK
}

// near gives bytes of any kind, many of them near to a segment.
func near(r *rand.Rand) []byte {
	b := make([]byte, r.Intn(70))
	r.Read(b)
	if len(b) < 20 || r.Intn(4) == 0 {
		return b
	}
	b[12] = byte(r.Intn(16) << 4)
	if r.Intn(8) == 0 {
		b[12] |= 1 << r.Intn(4)
	}
	if r.Intn(3) > 0 {
		b = signed(one, two, b)
	}
	return b
}

// R1, R2, P4.1, P4.3: bytes of any kind.
func TestParseTakesAnything(t *testing.T) {
	r := rand.New(rand.NewSource(6))
	count := map[api.Errno]int{}
	for range 50000 {
		b := near(r)
		p, e := tcp.Parse(one, two, b)
		if want := faultOf(one, two, b); e != want {
			t.Fatalf("%x: %v, want %v", b, e, want)
		}
		count[e]++
		if e != api.OK {
			if !same(p, api.Piece{}) {
				t.Fatalf("%x: %v beside %v", b, p, e)
			}
			continue
		}
		if again, e := tcp.Build(one, two, p); e != api.OK || !bytes.Equal(again, b) {
			t.Fatalf("%x: read as %v, which is built as %x, %v", b, p, again, e)
		}
	}
	for _, e := range []api.Errno{api.OK, api.ErrShort, api.ErrForm, api.ErrSum} {
		if count[e] < 100 {
			t.Errorf("%v came %d times alone", e, count[e])
		}
	}
}

package udp_test

import (
	"bytes"
	"encoding/binary"
	"encoding/hex"
	"fmt"
	"math"
	"math/rand"
	"slices"
	"testing"

	"bailiwick/api"
	"bailiwick/udp"
)

const (
	ten   = 0x0a000001
	eight = 0x08080808
	nine  = 0x08080809
)

var example = api.Datagram{Src: 1000, Dst: 53, Data: []byte("hi")}

// The check by hand: 0a00 + 0001 + 0808 + 0808 + 0011 + 000a + 03e8 + 0035 + 000a + 6869 = 86bc, turned.
const exampleBytes = "03e80035000a79436869"

func exampleList() []byte {
	b, _ := hex.DecodeString(exampleBytes)
	return b
}

// with gives the example with one byte changed.
func with(at int, c byte) []byte {
	b := exampleList()
	b[at] = c
	return b
}

// bareList gives the example with a check of 0.
func bareList() []byte {
	b := exampleList()
	b[6], b[7] = 0, 0
	return b
}

// roomy gives bytes that have spare room behind them, filled with a mark, and a look at all of it.
func roomy(b ...byte) (list, whole []byte) {
	whole = append(slices.Clone(b), bytes.Repeat([]byte{0xa5}, 64)...)
	return whole[:len(b)], whole
}

// same holds datagrams against each other; nil and an empty list are one.
func same(u, v api.Datagram) bool {
	return u.Src == v.Src && u.Dst == v.Dst && u.Bare == v.Bare && bytes.Equal(u.Data, v.Data)
}

// sumOf adds the words of the bytes, with the carries.
func sumOf(b []byte) int {
	if len(b)%2 == 1 {
		b = append(slices.Clone(b), 0)
	}
	total := 0
	for i := 0; i < len(b); i += 2 {
		total += int(binary.BigEndian.Uint16(b[i:]))
	}
	for total > 65535 {
		total = total/65536 + total%65536
	}
	return total
}

// pseudo is the pseudo header, another way: by the remainders of numbers of any sign.
func pseudo(src, dst uint32, proto, n int) []byte {
	var h [12]byte
	binary.BigEndian.PutUint32(h[0:], src)
	binary.BigEndian.PutUint32(h[4:], dst)
	h[9] = byte((proto%256 + 256) % 256)
	binary.BigEndian.PutUint16(h[10:], uint16((n%65536+65536)%65536))
	return h[:]
}

// signed lays the check of the first n bytes.
func signed(src, dst uint32, b []byte, n int) []byte {
	b = slices.Clone(b)
	b[6], b[7] = 0, 0
	check := 65535 - sumOf(append(pseudo(src, dst, 17, n), b[:n]...))
	if check == 0 {
		check = 65535
	}
	binary.BigEndian.PutUint16(b[6:], uint16(check))
	return b
}

// model builds the bytes of a well-formed datagram another way.
func model(src, dst uint32, u api.Datagram) []byte {
	b := make([]byte, 8, 8+len(u.Data))
	binary.BigEndian.PutUint16(b[0:], uint16(u.Src))
	binary.BigEndian.PutUint16(b[2:], uint16(u.Dst))
	binary.BigEndian.PutUint16(b[4:], uint16(8+len(u.Data)))
	b = append(b, u.Data...)
	if u.Bare {
		return b
	}
	return signed(src, dst, b, len(b))
}

// random gives a well-formed datagram, with data of even and of odd length.
func random(r *rand.Rand) api.Datagram {
	u := api.Datagram{Src: r.Intn(65536), Dst: r.Intn(65536), Bare: r.Intn(4) == 0, Data: make([]byte, r.Intn(60))}
	r.Read(u.Data)
	return u
}

// edges lists datagrams with each field at its least and at its most, and lengths at the limits.
func edges() []api.Datagram {
	return []api.Datagram{
		{}, {Bare: true}, {Src: 65535}, {Dst: 65535}, {Src: 65535, Dst: 65535, Bare: true},
		{Src: 0x0102, Dst: 0x0304}, {Src: 255, Dst: 256},
		{Data: []byte{1}}, {Data: []byte{255}}, {Data: []byte{1, 2}}, {Data: []byte{0, 0, 0}}, {Data: []byte{9}, Bare: true},
		{Data: make([]byte, api.MaxFrame-28)}, {Data: make([]byte, api.MaxFrame-29)},
		{Src: 65535, Dst: 65535, Data: bytes.Repeat([]byte{255}, api.MaxFrame-28)},
		{Src: 65535, Dst: 65535, Data: bytes.Repeat([]byte{255}, api.MaxFrame-29), Bare: true},
	}
}

// many lists the edges and random ones.
func many(r *rand.Rand) []api.Datagram {
	list := edges()
	for range 500 {
		list = append(list, random(r))
	}
	return list
}

// addresses lists pairs of them, each half and each byte told apart.
func addresses() [][2]uint32 {
	const all = 1<<32 - 1
	return [][2]uint32{{ten, eight}, {0, 0}, {all, all}, {0x01020304, 0x05060708}, {all, 0}, {0, all}, {0x80000000, 1}}
}

// parsed asks that Parse answers the datagram.
func parsed(t *testing.T, what string, src, dst uint32, b []byte, want api.Datagram) {
	t.Helper()
	u, e := udp.Parse(src, dst, b)
	if e != api.OK || !same(u, want) {
		t.Errorf("%s: %v, %v, want %v", what, u, e, want)
	}
}

// refused asks that Parse, from 10.0.0.1 to 8.8.8.8, answers the error and nothing beside it.
func refused(t *testing.T, what string, b []byte, want api.Errno) {
	t.Helper()
	u, e := udp.Parse(ten, eight, b)
	if e != want || !same(u, api.Datagram{}) {
		t.Errorf("%s: %v, %v, want %v", what, u, e, want)
	}
}

// unbuilt asks that Build answers the error and nothing beside it.
func unbuilt(t *testing.T, what string, u api.Datagram, want api.Errno) {
	t.Helper()
	if b, e := udp.Build(ten, eight, u); e != want || len(b) != 0 {
		t.Errorf("%s: %d bytes, %v, want %v", what, len(b), e, want)
	}
}

// P3.1, P3.2: the chapter's examples, and the example's check worked out by hand.
func TestExamplesOfTheChapter(t *testing.T) {
	b, e := udp.Build(ten, eight, example)
	if hex.EncodeToString(b) != exampleBytes || e != api.OK {
		t.Errorf("Build = %x, %v, want %s", b, e, exampleBytes)
	}
	parsed(t, "to 8.8.8.8", ten, eight, exampleList(), example)
	if u, e := udp.Parse(ten, nine, exampleList()); e != api.ErrSum || !same(u, api.Datagram{}) {
		t.Errorf("to 8.8.8.9: %v, %v", u, e)
	}
	refused(t, "7 bytes", exampleList()[:7], api.ErrShort)
}

// P3.1: what stands there, field by field, for all addresses.
func TestParseTellsTheFields(t *testing.T) {
	for _, u := range many(rand.New(rand.NewSource(1))) {
		for _, a := range addresses() {
			parsed(t, fmt.Sprint(a), a[0], a[1], model(a[0], a[1], u), u)
		}
	}
}

// P3.1: what is behind the length is let go: it is neither told nor summed, an odd length included.
func TestParseLetsGoWhatIsBehind(t *testing.T) {
	r := rand.New(rand.NewSource(2))
	for _, u := range many(r) {
		b := model(ten, eight, u)
		for _, more := range []int{1, 2, 3, 100, 70000} {
			behind := make([]byte, more)
			r.Read(behind)
			parsed(t, fmt.Sprint(more, " bytes behind"), ten, eight, append(slices.Clone(b), behind...), u)
		}
	}
	// One of no data, though bytes are there.
	none := with(5, 8)
	parsed(t, "a length of 8, of 10 bytes", ten, eight, signed(ten, eight, none, 8), api.Datagram{Src: 1000, Dst: 53})
	refused(t, "a length of 8, the check over all 10", signed(ten, eight, none, 10), api.ErrSum)
	refused(t, "a length of 9, the check over all 10", signed(ten, eight, with(5, 9), 10), api.ErrSum)
	odd := signed(ten, eight, with(5, 9), 9)
	parsed(t, "a length of 9, of 10 bytes", ten, eight, odd, api.Datagram{Src: 1000, Dst: 53, Data: []byte("h")})
}

// P3.1: each fault by itself, at the edge where it begins.
func TestParseRefuses(t *testing.T) {
	refused(t, "nil", nil, api.ErrShort)
	for n := range 8 {
		refused(t, fmt.Sprint(n, " bytes"), exampleList()[:n], api.ErrShort)
		refused(t, fmt.Sprint("a length of ", n), signed(ten, eight, with(5, byte(n)), max(n, 8)), api.ErrForm)
	}
	refused(t, "8 bytes of a length of 10", exampleList()[:8], api.ErrShort)
	refused(t, "9 bytes of a length of 10", exampleList()[:9], api.ErrShort)
	refused(t, "a length of 11", with(5, 11), api.ErrShort)
	refused(t, "a length of 256 and 10", with(4, 1), api.ErrShort)
	refused(t, "a length of 65535", append([]byte{0, 1, 0, 2, 255, 255, 0, 0}, make([]byte, 65526)...), api.ErrShort)
	refused(t, "zeros", make([]byte, 8), api.ErrForm)
	refused(t, "8 bytes of ones", bytes.Repeat([]byte{255}, 8), api.ErrShort)
}

// P3.1: a length of 65535 is taken: the limit is Build's alone.
func TestParseTakesTheLongest(t *testing.T) {
	data := make([]byte, 65527)
	rand.New(rand.NewSource(3)).Read(data)
	for _, n := range []int{api.MaxFrame - 27, api.MaxFrame, 65527} {
		u := api.Datagram{Src: 7, Dst: 9, Data: data[:n]}
		b := model(ten, eight, u)
		parsed(t, fmt.Sprint(n), ten, eight, b, u)
		parsed(t, fmt.Sprint(n, " and more behind"), ten, eight, append(b, 1, 2, 3), u)
	}
}

// P3.1: each bit of the bytes, of the addresses and of the protocol is under the check.
func TestParseFindsOneBit(t *testing.T) {
	for bit := range 80 {
		if bit >= 32 && bit < 48 {
			continue // the length has faults of its own
		}
		b := exampleList()
		b[bit/8] ^= 1 << (bit % 8)
		refused(t, fmt.Sprint("bit ", bit), b, api.ErrSum)
	}
	for bit := range 32 {
		for _, a := range [][2]uint32{{ten ^ 1<<bit, eight}, {ten, eight ^ 1<<bit}} {
			if u, e := udp.Parse(a[0], a[1], exampleList()); e != api.ErrSum || !same(u, api.Datagram{}) {
				t.Errorf("%x: %v, %v", a, u, e)
			}
		}
	}
	for _, proto := range []int{0, 1, 6, 16, 18} {
		b := bareList()
		binary.BigEndian.PutUint16(b[6:], uint16(65535-sumOf(append(pseudo(ten, eight, proto, 10), b...))))
		refused(t, fmt.Sprint("the check of protocol ", proto), b, api.ErrSum)
	}
	b := bareList()
	binary.BigEndian.PutUint16(b[6:], uint16(65535-sumOf(b)))
	refused(t, "a check without the pseudo header", b, api.ErrSum)
}

// P3.1: with a check of 0 nothing is summed, whatever the bytes and the addresses are.
func TestParseOfABareOne(t *testing.T) {
	b := bareList()
	want := example
	want.Bare = true
	for _, a := range addresses() {
		parsed(t, fmt.Sprint(a), a[0], a[1], b, want)
	}
	b[8] ^= 0xff
	want.Data = []byte{'h' ^ 0xff, 'i'}
	parsed(t, "other data", ten, eight, b, want)
	want.Data = nil
	b[5] = 8
	parsed(t, "a length of 8", ten, eight, b, want)
	refused(t, "a length of 7", append([]byte{0, 0, 0, 0, 0, 7, 0, 0}, b...), api.ErrForm)
	refused(t, "a length of 9 of 8 bytes", []byte{0, 0, 0, 0, 0, 9, 0, 0}, api.ErrShort)
	// Half a check is one.
	refused(t, "the higher byte 0", with(6, 0), api.ErrSum)
	refused(t, "the lower byte 0", with(7, 0), api.ErrSum)
}

// P3.1: of two faults the one that is named first.
func TestParseTellsTheFirstFault(t *testing.T) {
	refused(t, "7 bytes, and a length of 0", make([]byte, 7), api.ErrShort)
	refused(t, "6 bytes, and a length of 10", exampleList()[:6], api.ErrShort)
	refused(t, "a length of 7, and a wrong check", with(5, 7), api.ErrForm)
	refused(t, "a length of 0, and a wrong check", with(5, 0), api.ErrForm)
	refused(t, "a length of 11, and a wrong check", with(5, 11), api.ErrShort)
	refused(t, "a byte lacks, and a wrong check", with(7, 0)[:9], api.ErrShort)
}

// P3.2: the bytes, against the model, for all addresses.
func TestBuildLaysTheFields(t *testing.T) {
	for _, u := range many(rand.New(rand.NewSource(4))) {
		for _, a := range addresses() {
			b, e := udp.Build(a[0], a[1], u)
			if want := model(a[0], a[1], u); !bytes.Equal(b, want) || e != api.OK {
				t.Fatalf("Build(%x, %v) = %x, %v, want %x", a, u, b, e, want)
			}
		}
	}
}

// P3.2: ports past their limits, by one and by far; they are told ahead of a length past its own.
func TestBuildRefusesPorts(t *testing.T) {
	for _, x := range []int{-1, -65535, -65536, 65536, 65536 + 53, 1 << 32, math.MinInt, math.MaxInt} {
		for _, n := range []int{0, api.MaxFrame} {
			for _, bare := range []bool{false, true} {
				data := make([]byte, n)
				unbuilt(t, fmt.Sprint("Src ", x), api.Datagram{Src: x, Bare: bare, Data: data}, api.ErrArg)
				unbuilt(t, fmt.Sprint("Dst ", x), api.Datagram{Dst: x, Bare: bare, Data: data}, api.ErrArg)
				unbuilt(t, fmt.Sprint("both ", x), api.Datagram{Src: x, Dst: x, Bare: bare, Data: data}, api.ErrArg)
			}
		}
	}
}

// P3.2: at MaxFrame - 20 bytes in all it is well, one more is too long.
func TestBuildAtTheLimit(t *testing.T) {
	for _, bare := range []bool{false, true} {
		u := api.Datagram{Src: 65535, Dst: 65535, Bare: bare, Data: make([]byte, api.MaxFrame-28)}
		if b, e := udp.Build(ten, eight, u); len(b) != api.MaxFrame-20 || e != api.OK {
			t.Errorf("at the limit: %d bytes, %v", len(b), e)
		}
		for _, n := range []int{api.MaxFrame - 27, api.MaxFrame, 65527, 65528, 65536 - 8 + 10, 1 << 20} {
			u.Data = make([]byte, n)
			unbuilt(t, fmt.Sprint(n, " bytes of data"), u, api.ErrLong)
		}
	}
}

// P3.2: a check that is 0 by its sum stands as 65535, and only a bare one has 0.
func TestBuildOfACheckOfZero(t *testing.T) {
	for _, data := range [][]byte{nil, {1}, []byte("even"), []byte("odd")} {
		u := api.Datagram{Src: 1000, Data: data}
		// Dst takes up what the check said, so that the check is 0 then.
		u.Dst = int(binary.BigEndian.Uint16(model(ten, eight, u)[6:]))
		b, e := udp.Build(ten, eight, u)
		if e != api.OK || b[6] != 255 || b[7] != 255 {
			t.Errorf("%v: %x, %v, want a check of 65535", u, b, e)
		}
		if sum := sumOf(append(pseudo(ten, eight, 17, len(b)), b...)); sum != 65535 {
			t.Errorf("%v: the sum is %d", u, sum)
		}
		parsed(t, "a check of 65535", ten, eight, b, u)
		// One more or less does not turn it about.
		for _, by := range []int{-1, 1} {
			v := u
			v.Dst += by
			if b, _ := udp.Build(ten, eight, v); !bytes.Equal(b, model(ten, eight, v)) || b[6] == 255 && b[7] == 255 {
				t.Errorf("%v: %x", v, b)
			}
		}
		u.Bare = true
		b, e = udp.Build(ten, eight, u)
		if e != api.OK || b[6] != 0 || b[7] != 0 {
			t.Errorf("%v: %x, %v, want a check of 0", u, b, e)
		}
	}
	wrong := with(6, 255)
	wrong[7] = 255
	refused(t, "a check of 65535 that is wrong", wrong, api.ErrSum)
}

// P3.3: Parse of Build is u.
func TestThereAndBack(t *testing.T) {
	for _, u := range many(rand.New(rand.NewSource(5))) {
		for _, a := range addresses() {
			b, e := udp.Build(a[0], a[1], u)
			if e != api.OK {
				t.Fatalf("Build(%v): %v", u, e)
			}
			parsed(t, "Parse of Build", a[0], a[1], b, u)
		}
	}
}

// P3.3: every check there is, 0 and 65535 among them, by every port.
func TestThereAndBackOfAllPorts(t *testing.T) {
	for port := range 65536 {
		u := api.Datagram{Src: port, Dst: 65535 - port/2}
		b, e := udp.Build(ten, eight, u)
		if e != api.OK || b[6] == 0 && b[7] == 0 {
			t.Fatalf("Build(%v) = %x, %v", u, b, e)
		}
		parsed(t, "Parse of Build", ten, eight, b, u)
	}
}

// The pseudo header: its places, and numbers out of their range.
func TestPseudo(t *testing.T) {
	protos := []int{0, 1, 6, 17, 255, 256, 257, 273, -1, -17, -256, 65536 + 6, math.MaxInt, math.MinInt, math.MinInt + 17}
	lengths := []int{0, 1, 8, 255, 256, 65535, 65536, 65537, 65539, -1, -8, -65536, 1 << 32, math.MaxInt, math.MinInt, math.MinInt + 300}
	for _, a := range addresses() {
		for _, proto := range protos {
			for _, n := range lengths {
				if got, want := udp.Pseudo(a[0], a[1], proto, n), pseudo(a[0], a[1], proto, n); !bytes.Equal(got, want) {
					t.Errorf("Pseudo(%x, %d, %d) = %x, want %x", a, proto, n, got, want)
				}
			}
		}
	}
	got := udp.Pseudo(0x01020304, 0x05060708, 0x1ff, 0x2abcd)
	if want := "010203040506070800ffabcd"; hex.EncodeToString(got) != want {
		t.Errorf("%x, want %s", got, want)
	}
	got = udp.Pseudo(0, 0, -2, -2)
	if want := "000000000000000000fefffe"; hex.EncodeToString(got) != want {
		t.Errorf("%x, want %s", got, want)
	}
}

// spoil writes over all of a list that was answered, its spare room too.
func spoil(b []byte) {
	for i := range b[:cap(b)] {
		b[:cap(b)][i] = 77
	}
}

// R4: what is handed in stays, its spare room too; answers share no memory with it, nor with each other.
func TestMemoryOfParse(t *testing.T) {
	for _, b := range [][]byte{exampleList(), bareList(), with(7, 0), with(5, 7), with(5, 11), append(exampleList(), 1, 2, 3), exampleList()[:7]} {
		b, whole := roomy(b...)
		was := slices.Clone(whole)
		one, e := udp.Parse(ten, eight, b)
		two, _ := udp.Parse(ten, eight, b)
		spoil(one.Data)
		_ = append(one.Data, 78)
		if !bytes.Equal(whole, was) {
			t.Errorf("what was handed in is changed: %v", whole)
		}
		clear(whole)
		if e == api.OK && string(two.Data) != "hi" {
			t.Errorf("the answer follows what was handed in, or another answer: %v", two)
		}
	}
	// Of no data, with bytes behind the length.
	b, whole := roomy(signed(ten, eight, with(5, 8), 8)...)
	was := slices.Clone(whole)
	u, _ := udp.Parse(ten, eight, b)
	spoil(u.Data)
	_ = append(u.Data, 78)
	if !bytes.Equal(whole, was) {
		t.Errorf("what was handed in is changed: %v", whole)
	}
}

// R4: the same for Build and Pseudo.
func TestMemoryOfBuild(t *testing.T) {
	data, whole := roomy([]byte("data")...)
	was := slices.Clone(whole)
	for _, u := range []api.Datagram{{Data: data}, {Data: data, Bare: true}, {Data: data[:3]}, {Data: data[:0]}, {Src: -1, Data: data}} {
		one, _ := udp.Build(ten, eight, u)
		two, _ := udp.Build(ten, eight, u)
		before := slices.Clone(two)
		spoil(one)
		if !bytes.Equal(whole, was) {
			t.Errorf("what was handed in is changed: %v", whole)
		}
		if !bytes.Equal(two, before) {
			t.Errorf("another answer is changed: %v", two)
		}
	}
	built, _ := udp.Build(ten, eight, api.Datagram{Data: data})
	clear(whole)
	if string(built[8:]) != "data" {
		t.Errorf("the answer follows what was handed in: %v", built)
	}
	one, two := udp.Pseudo(ten, eight, 17, 8), udp.Pseudo(ten, eight, 17, 8)
	spoil(one)
	if !bytes.Equal(two, pseudo(ten, eight, 17, 8)) {
		t.Errorf("another answer is changed: %v", two)
	}
}

// faultOf says, in the chapter's own order, what Parse answers of b.
func faultOf(src, dst uint32, b []byte) api.Errno {
	if len(b) < 8 {
		return api.ErrShort
	}
	n := int(binary.BigEndian.Uint16(b[4:]))
	if n < 8 {
		return api.ErrForm
	}
	if n > len(b) {
		return api.ErrShort
	}
	if b[6]|b[7] != 0 && sumOf(append(pseudo(src, dst, 17, n), b[:n]...)) != 65535 {
		return api.ErrSum
	}
	return api.OK
}

// R1, R2: bytes of any kind, many of them near to a datagram.
func TestParseTakesAnything(t *testing.T) {
	r := rand.New(rand.NewSource(6))
	count := map[api.Errno]int{}
	for range 50000 {
		b := make([]byte, r.Intn(30))
		r.Read(b)
		if len(b) >= 8 && r.Intn(4) > 0 {
			n := r.Intn(32)
			b[4], b[5] = 0, byte(n)
			if n >= 8 && n <= len(b) && r.Intn(2) > 0 {
				b = signed(ten, eight, b, n)
			}
			if r.Intn(8) == 0 {
				b[6], b[7] = 0, 0
			}
		}
		u, e := udp.Parse(ten, eight, b)
		if want := faultOf(ten, eight, b); e != want {
			t.Fatalf("%x: %v, want %v", b, e, want)
		}
		count[e]++
		if e != api.OK {
			if !same(u, api.Datagram{}) {
				t.Fatalf("%x: %v beside %v", b, u, e)
			}
			continue
		}
		if again := model(ten, eight, u); !bytes.Equal(again, b[:len(again)]) {
			t.Fatalf("%x: read as %v, which is %x", b, u, again)
		}
	}
	for _, e := range []api.Errno{api.OK, api.ErrShort, api.ErrForm, api.ErrSum} {
		if count[e] < 100 {
			t.Errorf("%v came %d times alone", e, count[e])
		}
	}
}

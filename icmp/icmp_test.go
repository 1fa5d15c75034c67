package icmp_test

import (
	"bytes"
	"encoding/binary"
	"encoding/hex"
	"fmt"
	"math"
	"math/rand"
	"reflect"
	"slices"
	"testing"

	"bailiwick/api"
	"bailiwick/icmp"
)

const (
	allRest = 1<<32 - 1
	room    = api.MaxFrame - 28 // bytes of data that a message may have
)

var example = api.Word{Type: 8, Rest: 65538}

// The check by hand: 0800 + 0001 + 0002 = 0803, turned.
const exampleBytes = "0800f7fc00010002"

// full is a message in which each byte of each field is another one.
var full = api.Word{Type: 0x81, Code: 0x92, Rest: 0xa3b4c5d6, Data: []byte("odd")}

func bytesOf(text string) []byte {
	b, _ := hex.DecodeString(text)
	return b
}

// roomy gives bytes that have spare room behind them, filled with a mark, and a look at all of it.
func roomy(b ...byte) (list, whole []byte) {
	whole = append(slices.Clone(b), bytes.Repeat([]byte{0xa5}, 64)...)
	return whole[:len(b)], whole
}

// same holds messages against each other; nil and an empty list are one.
func same(v, w api.Word) bool {
	if !bytes.Equal(v.Data, w.Data) {
		return false
	}
	v.Data, w.Data = nil, nil
	return reflect.DeepEqual(v, w)
}

// sumOf adds the words of the bytes, with the carries.
func sumOf(b []byte) int {
	if len(b)%2 == 1 {
		b = append(slices.Clone(b), 0)
	}
	total := 0
	for i := 0; i < len(b); i += 2 {
		total += int(binary.BigEndian.Uint16(b[i:]))
	}
	for total > 65535 {
		total = total/65536 + total%65536
	}
	return total
}

// checked gives the bytes with a check laid.
func checked(b []byte, check int) []byte {
	b = slices.Clone(b)
	binary.BigEndian.PutUint16(b[2:], uint16(check))
	return b
}

// signed lays the right check.
func signed(b []byte) []byte {
	return checked(b, 65535-sumOf(checked(b, 0)))
}

// model builds the bytes of a well-formed message another way.
func model(w api.Word) []byte {
	b := []byte{byte(w.Type), byte(w.Code), 0, 0}
	b = binary.BigEndian.AppendUint32(b, w.Rest)
	return signed(append(b, w.Data...))
}

// random gives a well-formed message, with data of even and of odd length.
func random(r *rand.Rand) api.Word {
	w := api.Word{Type: r.Intn(256), Code: r.Intn(256), Rest: r.Uint32(), Data: make([]byte, r.Intn(60))}
	r.Read(w.Data)
	return w
}

// edges lists messages with each field at its least and at its most, and lengths at the limit.
func edges() []api.Word {
	return []api.Word{
		{}, example, full,
		{Type: 255}, {Code: 255}, {Type: 128}, {Code: 128}, {Type: 1}, {Code: 1},
		{Rest: allRest}, {Rest: allRest - 1}, {Rest: 1}, {Rest: 1 << 31}, {Rest: 0xffff0000}, {Rest: 0xffff}, {Rest: 0x10000},
		{Data: []byte{0}}, {Data: []byte{1}}, {Data: []byte{255}}, {Data: []byte{0, 1}}, {Data: []byte{255, 255}},
		{Data: []byte{0, 0, 0}}, {Data: []byte{1, 2, 3}}, {Type: 255, Code: 255, Rest: allRest, Data: []byte{7}},
		{Data: make([]byte, room)}, {Data: make([]byte, room-1)},
		{Type: 255, Code: 255, Rest: allRest, Data: bytes.Repeat([]byte{255}, room)},
		{Type: 255, Code: 255, Rest: allRest, Data: bytes.Repeat([]byte{255}, room-1)},
	}
}

// many lists the edges and random ones.
func many(r *rand.Rand) []api.Word {
	list := edges()
	for range 2000 {
		list = append(list, random(r))
	}
	return list
}

// parsed asks that Parse answers the message.
func parsed(t *testing.T, what string, b []byte, want api.Word) {
	t.Helper()
	if w, e := icmp.Parse(b); e != api.OK || !same(w, want) {
		t.Errorf("%s: %v, %v, want %v", what, w, e, want)
	}
}

// refused asks that Parse answers the error and nothing beside it.
func refused(t *testing.T, what string, b []byte, want api.Errno) {
	t.Helper()
	if w, e := icmp.Parse(b); e != want || !same(w, api.Word{}) {
		t.Errorf("%s: %v, %v, want %v", what, w, e, want)
	}
}

// built asks that Build answers the bytes.
func built(t *testing.T, what string, w api.Word, want []byte) {
	t.Helper()
	if b, e := icmp.Build(w); e != api.OK || !bytes.Equal(b, want) {
		t.Errorf("%s: %x, %v, want %x", what, b, e, want)
	}
}

// unbuilt asks that Build answers the error and nothing beside it.
func unbuilt(t *testing.T, what string, w api.Word, want api.Errno) {
	t.Helper()
	if b, e := icmp.Build(w); e != want || len(b) != 0 {
		t.Errorf("%s: %d bytes, %v, want %v", what, len(b), e, want)
	}
}

// P5.1, P5.2: the chapter's examples.
func TestExamplesOfTheChapter(t *testing.T) {
	built(t, "the example", example, bytesOf(exampleBytes))
	parsed(t, "the example's bytes", bytesOf(exampleBytes), example)
	if kind, n := icmp.Kind(example), icmp.Number(example); kind != api.KindAsk || n != 1 {
		t.Errorf("the example is of kind %d and number %d", kind, n)
	}
	if kind := icmp.Kind(api.Word{Type: 0, Code: 1}); kind != api.KindNone {
		t.Errorf("{0, 1} is of kind %d", kind)
	}
}

// P5.1: where each byte of each field stands, written out.
func TestPlacesOfTheFields(t *testing.T) {
	// 8192 + a3b4 + c5d6 + 6f64 + 6400 = 2be80, with its carry be82, turned.
	const text = "8192417da3b4c5d66f6464"
	built(t, "the message", full, bytesOf(text))
	parsed(t, "the bytes", bytesOf(text), full)
}

// P5.1: what stands there, field by field.
func TestParseTellsTheFields(t *testing.T) {
	for i, w := range many(rand.New(rand.NewSource(1))) {
		parsed(t, fmt.Sprint("message ", i), model(w), w)
	}
}

// P5.1: every type with every code.
func TestEveryTypeAndCode(t *testing.T) {
	for x := range 256 {
		for y := range 256 {
			w := api.Word{Type: x, Code: y, Rest: full.Rest, Data: full.Data}
			b := model(w)
			parsed(t, "Parse", b, w)
			built(t, "Build", w, b)
		}
	}
}

// P5.1: each fault by itself, at the edge where it begins.
func TestParseRefuses(t *testing.T) {
	refused(t, "nil", nil, api.ErrShort)
	refused(t, "an empty list", []byte{}, api.ErrShort)
	for n := range 8 {
		refused(t, fmt.Sprint(n, " bytes"), bytesOf(exampleBytes)[:n], api.ErrShort)
	}
	parsed(t, "8 bytes", bytesOf(exampleBytes), example)
	refused(t, "another byte behind", append(bytesOf(exampleBytes), 1), api.ErrSum)
	refused(t, "a check of 0", checked(bytesOf(exampleBytes), 0), api.ErrSum)
	refused(t, "a check of 65535 that is wrong", checked(bytesOf(exampleBytes), 65535), api.ErrSum)
	refused(t, "a check one too small", checked(bytesOf(exampleBytes), 0xf7fb), api.ErrSum)
	refused(t, "a check one too great", checked(bytesOf(exampleBytes), 0xf7fd), api.ErrSum)
	refused(t, "a check with its bytes changed about", checked(bytesOf(exampleBytes), 0xfcf7), api.ErrSum)
}

// P5.1: of two faults the one that is named first; bytes that are too few are so with the right sum, too.
func TestParseTellsTheFirstFault(t *testing.T) {
	for n := range 8 {
		refused(t, fmt.Sprint(n, " bytes 0"), make([]byte, n), api.ErrShort)
		refused(t, fmt.Sprint(n, " bytes 7"), bytes.Repeat([]byte{7}, n), api.ErrShort)
		refused(t, fmt.Sprint(n, " bytes of ones"), bytes.Repeat([]byte{255}, n), api.ErrShort)
		if n >= 4 {
			refused(t, fmt.Sprint(n, " bytes with the right check"), signed(bytesOf(exampleBytes)[:n]), api.ErrShort)
		}
	}
}

// P5.1: each bit of the bytes is under the check, and no pseudo header is.
func TestParseFindsOneBit(t *testing.T) {
	even := full
	even.Data = []byte("even")
	for _, w := range []api.Word{example, full, even, {Data: []byte{0}}} {
		b := model(w)
		for bit := range 8 * len(b) {
			c := slices.Clone(b)
			c[bit/8] ^= 1 << (bit % 8)
			refused(t, fmt.Sprint(w, ", bit ", bit), c, api.ErrSum)
		}
	}
	pseudo := []byte{10, 0, 0, 1, 8, 8, 8, 8, 0, api.ICMP, 0, 8}
	check := 65535 - sumOf(append(pseudo, checked(bytesOf(exampleBytes), 0)...))
	refused(t, "the check with a pseudo header", checked(bytesOf(exampleBytes), check), api.ErrSum)
}

// P5.1: a last single byte is a word's higher one, by every number of it.
func TestLastSingleByte(t *testing.T) {
	for x := range 256 {
		w := api.Word{Type: 8, Rest: 65538, Data: []byte{byte(x)}}
		// 0803 and the byte ahead of a 0, with the carry.
		sum := 0x0803 + x*256
		if sum > 65535 {
			sum -= 65535
		}
		b := append(checked(bytesOf(exampleBytes), 65535-sum), byte(x))
		built(t, fmt.Sprint("a last byte ", x), w, b)
		parsed(t, fmt.Sprint("a last byte ", x), b, w)
		if x > 0 {
			low := append(checked(bytesOf(exampleBytes), 65535-0x0803-x), byte(x))
			refused(t, fmt.Sprint("a last byte ", x, " as a lower one"), low, api.ErrSum)
		}
	}
	parsed(t, "a byte 0 behind", append(bytesOf(exampleBytes), 0), api.Word{Type: 8, Rest: 65538, Data: []byte{0}})
	parsed(t, "a word 0 behind", append(bytesOf(exampleBytes), 0, 0), api.Word{Type: 8, Rest: 65538, Data: []byte{0, 0}})
}

// P5.1: no length is too great: the limit is Build's alone.
func TestParseTakesTheLongest(t *testing.T) {
	data := make([]byte, 1<<17)
	rand.New(rand.NewSource(2)).Read(data)
	for _, n := range []int{room - 1, room, room + 1, api.MaxFrame, 65527, 65528, 65536, 1<<17 - 1, 1 << 17} {
		w := full
		w.Data = data[:n]
		parsed(t, fmt.Sprint(n, " bytes of data"), model(w), w)
	}
}

// P5.1: the bytes, against the model.
func TestBuildLaysTheFields(t *testing.T) {
	for i, w := range many(rand.New(rand.NewSource(3))) {
		built(t, fmt.Sprint("message ", i), w, model(w))
	}
}

// P5.1: types and codes past their limits, by one and by far; they are told ahead of a length past its own.
func TestBuildRefusesNumbers(t *testing.T) {
	far := []int{
		-1, -2, -8, -128, -255, -256, -257, -65536, 256, 257, 256 + 8, 511, 512, 65535, 65536,
		1 << 31, 1 << 32, 1<<32 + 8, math.MinInt, math.MinInt + 8, math.MaxInt,
	}
	for _, n := range []int{0, 1, room, room + 1, 65536} {
		for _, x := range far {
			data := make([]byte, n)
			unbuilt(t, fmt.Sprint("Type ", x), api.Word{Type: x, Data: data}, api.ErrArg)
			unbuilt(t, fmt.Sprint("Code ", x), api.Word{Code: x, Data: data}, api.ErrArg)
			unbuilt(t, fmt.Sprint("both ", x), api.Word{Type: x, Code: x, Data: data}, api.ErrArg)
			unbuilt(t, fmt.Sprint("Type ", x, ", Code 255"), api.Word{Type: x, Code: 255, Data: data}, api.ErrArg)
			unbuilt(t, fmt.Sprint("Type 255, Code ", x), api.Word{Type: 255, Code: x, Data: data}, api.ErrArg)
		}
	}
}

// P5.1: at MaxFrame - 20 bytes it is well, one more is too long.
func TestBuildAtTheLimit(t *testing.T) {
	for _, w := range []api.Word{{}, full, {Type: 255, Code: 255, Rest: allRest}} {
		for _, n := range []int{room - 2, room - 1, room} {
			w.Data = bytes.Repeat([]byte{9}, n)
			b, e := icmp.Build(w)
			if e != api.OK || len(b) != 8+n || !bytes.Equal(b, model(w)) {
				t.Errorf("%d bytes of data: %d bytes, %v", n, len(b), e)
			}
		}
		for _, n := range []int{room + 1, room + 2, api.MaxFrame - 20, api.MaxFrame, 65536, 1 << 20} {
			w.Data = make([]byte, n)
			unbuilt(t, fmt.Sprint(n, " bytes of data"), w, api.ErrLong)
		}
	}
}

// kindOf says which kind a message is of, in the chapter's own order.
func kindOf(x, y int) int {
	if x == 8 && y == 0 {
		return api.KindAsk
	}
	if x == 0 && y == 0 {
		return api.KindAnswer
	}
	if x == 3 || x == 11 || x == 12 {
		return api.KindFault
	}
	return api.KindNone
}

// P5.2: each kind by type and code and the neighbours of each, written out.
func TestKindsAndTheirNeighbours(t *testing.T) {
	cases := []struct{ x, y, want int }{
		{8, 0, api.KindAsk}, {7, 0, api.KindNone}, {9, 0, api.KindNone}, {8, 1, api.KindNone}, {8, -1, api.KindNone}, {8, 255, api.KindNone},
		{0, 0, api.KindAnswer}, {1, 0, api.KindNone}, {-1, 0, api.KindNone}, {0, 1, api.KindNone}, {0, -1, api.KindNone}, {0, 8, api.KindNone},
		{3, 0, api.KindFault}, {3, 1, api.KindFault}, {3, 4, api.KindFault}, {3, 255, api.KindFault}, {2, 0, api.KindNone}, {4, 0, api.KindNone},
		{11, 0, api.KindFault}, {11, 1, api.KindFault}, {11, 255, api.KindFault}, {10, 0, api.KindNone}, {10, 1, api.KindNone},
		{12, 0, api.KindFault}, {12, 2, api.KindFault}, {12, 255, api.KindFault}, {13, 0, api.KindNone}, {13, 1, api.KindNone},
		{5, 0, api.KindNone}, {5, 1, api.KindNone}, {255, 0, api.KindNone}, {255, 255, api.KindNone},
	}
	for _, c := range cases {
		if got := icmp.Kind(api.Word{Type: c.x, Code: c.y}); got != c.want {
			t.Errorf("Kind({%d, %d}) = %d, want %d", c.x, c.y, got, c.want)
		}
	}
}

// P5.2: every type with every code, those that no byte holds too; Rest and Data say nothing of the kind.
func TestKindsOfAllNumbers(t *testing.T) {
	numbers := []int{math.MinInt, math.MinInt + 8, math.MaxInt, 1 << 32, 1<<32 + 3, 1<<32 + 8, 65536, 65536 + 11}
	for x := -260; x < 520; x++ {
		numbers = append(numbers, x)
	}
	for _, x := range numbers {
		for _, y := range numbers {
			got, want := icmp.Kind(api.Word{Type: x, Code: y}), kindOf(x, y)
			other := icmp.Kind(api.Word{Type: x, Code: y, Rest: allRest, Data: full.Data})
			if got != want || other != want {
				t.Fatalf("Kind({%d, %d}) = %d and %d, want %d", x, y, got, other, want)
			}
		}
	}
}

// P5.2: Rest's higher half by every number of it, whatever the lower half and the message are.
func TestNumberIsTheHigherHalf(t *testing.T) {
	for x := range 65536 {
		for _, low := range []int{0, 1, 0x7fff, 0x8000, 65535} {
			w := api.Word{Rest: uint32(x)<<16 | uint32(low)}
			if got := icmp.Number(w); got != x {
				t.Fatalf("Number(%x) = %d, want %d", w.Rest, got, x)
			}
		}
	}
	for _, x := range []int{math.MinInt, -1, 0, 3, 8, 13, 255, 256, math.MaxInt} {
		for _, y := range []int{-1, 0, 1, 256} {
			if got := icmp.Number(api.Word{Type: x, Code: y, Rest: allRest, Data: full.Data}); got != 65535 {
				t.Errorf("Number({%d, %d}) = %d", x, y, got)
			}
		}
	}
}

// zeroed gives messages of which the right check is 0.
func zeroed() []api.Word {
	var list []api.Word
	for _, data := range [][]byte{nil, {0}, {1}, {255}, []byte("even"), []byte("odd")} {
		w := full
		w.Data, w.Rest = data, full.Rest&^0xffff
		// Rest's lower half takes up what the check said, so that the check is 0 then.
		w.Rest |= uint32(binary.BigEndian.Uint16(model(w)[2:]))
		list = append(list, w)
	}
	return append(list, api.Word{Rest: 65535}, api.Word{Type: 255, Code: 255}, api.Word{Rest: allRest}, api.Word{Data: []byte{255, 255}})
}

// P5.1, P5.3: a check that is 0 stands so; it is not turned to 65535, as UDP's is.
func TestCheckOfZero(t *testing.T) {
	for _, w := range zeroed() {
		b, e := icmp.Build(w)
		if e != api.OK || b[2] != 0 || b[3] != 0 || sumOf(b) != 65535 {
			t.Errorf("%v: %x, %v, want a check of 0", w, b, e)
			continue
		}
		parsed(t, "a check of 0", b, w)
	}
}

// P5.3: a check of 65535 where 0 is right is read, and is 0 when it is built again.
func TestCheckOfAllOnes(t *testing.T) {
	for _, w := range zeroed() {
		b := checked(model(w), 65535)
		parsed(t, "a check of 65535", b, w)
		v, _ := icmp.Parse(b)
		built(t, "built again", v, checked(b, 0))
		refused(t, "the higher half of it", checked(b, 0xff00), api.ErrSum)
		refused(t, "the lower half of it", checked(b, 0x00ff), api.ErrSum)
	}
}

// P5.3: where all other bytes are 0, the check is 65535, and 0 is wrong.
func TestMessagesOfZeros(t *testing.T) {
	for _, n := range []int{0, 1, 2, 3, 8, room - 1, room} {
		w := api.Word{Data: make([]byte, n)}
		b := checked(make([]byte, 8+n), 65535)
		built(t, fmt.Sprint(n, " bytes of data 0"), w, b)
		parsed(t, fmt.Sprint(n, " bytes of data 0"), b, w)
		v, _ := icmp.Parse(b)
		built(t, fmt.Sprint(n, " bytes of data 0, again"), v, b)
		refused(t, fmt.Sprint(8+n, " bytes 0"), make([]byte, 8+n), api.ErrSum)
	}
}

// P5.3: Parse of Build is w, and Build of what Parse told are the bytes.
func TestThereAndBack(t *testing.T) {
	for i, w := range many(rand.New(rand.NewSource(4))) {
		b, e := icmp.Build(w)
		if e != api.OK {
			t.Fatalf("message %d: %v", i, e)
		}
		parsed(t, fmt.Sprint("Parse of Build of message ", i), b, w)
		v, _ := icmp.Parse(model(w))
		built(t, fmt.Sprint("Build of Parse of message ", i), v, model(w))
	}
}

// P5.3: every check there is, by every number of Rest's lower half: 65535 is built for zeros alone.
func TestThereAndBackOfAllChecks(t *testing.T) {
	for _, w := range []api.Word{{}, {Type: 8, Data: []byte{9}}} {
		seen := map[int]int{}
		for x := range 65536 {
			w.Rest = uint32(x)
			b, e := icmp.Build(w)
			if e != api.OK {
				t.Fatalf("Build(%v): %v", w, e)
			}
			check := int(binary.BigEndian.Uint16(b[2:]))
			if zeros := w.Type == 0 && x == 0; (check == 65535) != zeros {
				t.Fatalf("Build(%v) = %x", w, b)
			}
			seen[check]++
			parsed(t, "Parse of Build", b, w)
		}
		if seen[0] != 1 || len(seen) < 65535 {
			t.Errorf("a check of 0 came %d times, and %d checks in all", seen[0], len(seen))
		}
	}
}

// spoil writes over all of a list that was answered, its spare room too.
func spoil(b []byte) {
	for i := range b[:cap(b)] {
		b[:cap(b)][i] = 77
	}
}

// R4: what is handed in stays, its spare room too; answers share no memory with it, nor with each other.
func TestMemoryOfParse(t *testing.T) {
	for _, w := range []api.Word{{}, example, full, {Data: []byte("even")}} {
		b, whole := roomy(model(w)...)
		was := slices.Clone(whole)
		first, e := icmp.Parse(b)
		second, _ := icmp.Parse(b)
		if e != api.OK {
			t.Fatalf("%v: %v", w, e)
		}
		spoil(first.Data)
		_ = append(first.Data, 78)
		if !bytes.Equal(whole, was) {
			t.Errorf("what was handed in is changed: %v", whole)
		}
		clear(whole)
		if !same(second, w) {
			t.Errorf("the answer follows what was handed in, or another answer: %v", second)
		}
	}
	for _, b := range [][]byte{bytesOf(exampleBytes)[:7], checked(bytesOf(exampleBytes), 1)} {
		b, whole := roomy(b...)
		was := slices.Clone(whole)
		icmp.Parse(b)
		if !bytes.Equal(whole, was) {
			t.Errorf("what was handed in and refused is changed: %v", whole)
		}
	}
}

// R4: the same for Build, and for the calls that only look.
func TestMemoryOfBuild(t *testing.T) {
	list, whole := roomy([]byte("data")...)
	was := slices.Clone(whole)
	for _, w := range []api.Word{
		{Type: 8, Data: list}, {Type: 8, Data: list[:3]}, {Type: 8, Data: list[:0]}, {Type: -1, Data: list}, {Code: 256, Data: list},
	} {
		first, _ := icmp.Build(w)
		second, _ := icmp.Build(w)
		icmp.Kind(w)
		icmp.Number(w)
		before := slices.Clone(second)
		spoil(first)
		_ = append(first, 78)
		if !bytes.Equal(whole, was) {
			t.Errorf("what was handed in is changed: %v", whole)
		}
		if !bytes.Equal(second, before) {
			t.Errorf("another answer is changed: %v", second)
		}
	}
	long, longWhole := roomy(make([]byte, room+1)...)
	longWas := slices.Clone(longWhole)
	icmp.Build(api.Word{Data: long})
	if !bytes.Equal(longWhole, longWas) {
		t.Error("what was handed in and refused is changed")
	}
	answer, _ := icmp.Build(api.Word{Type: 8, Data: list})
	clear(whole)
	if string(answer[8:]) != "data" {
		t.Errorf("the answer follows what was handed in: %v", answer)
	}
}

// faultOf says, in the chapter's own order, what Parse answers of b.
func faultOf(b []byte) api.Errno {
	if len(b) < 8 {
		return api.ErrShort
	}
	if sumOf(b) != 65535 {
		return api.ErrSum
	}
	return api.OK
}

// near gives bytes of any kind, many of them near to a message.
func near(r *rand.Rand) []byte {
	b := make([]byte, r.Intn(40))
	r.Read(b)
	if len(b) < 4 || r.Intn(4) == 0 {
		return b
	}
	return signed(b)
}

// R1, R2, P5.1, P5.3: bytes of any kind.
func TestParseTakesAnything(t *testing.T) {
	r := rand.New(rand.NewSource(5))
	count := map[api.Errno]int{}
	for range 50000 {
		b := near(r)
		w, e := icmp.Parse(b)
		if want := faultOf(b); e != want {
			t.Fatalf("%x: %v, want %v", b, e, want)
		}
		count[e]++
		if e != api.OK {
			if !same(w, api.Word{}) {
				t.Fatalf("%x: %v beside %v", b, w, e)
			}
			continue
		}
		built(t, fmt.Sprintf("%x, read and built again", b), w, b)
	}
	for _, e := range []api.Errno{api.OK, api.ErrShort, api.ErrSum} {
		if count[e] < 100 {
			t.Errorf("%v came %d times alone", e, count[e])
		}
	}
}

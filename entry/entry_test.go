package entry_test

import (
	"bytes"
	"encoding/binary"
	"math"
	"math/rand"
	"slices"
	"testing"

	"bailiwick/api"
	"bailiwick/entry"
)

// kinds are those that an entry may be of, with how many bytes each has.
var kinds = []struct{ kind, size int }{{api.EntryBoot, 9}, {api.EntryGrant, 19}, {api.EntryRelease, 15}}

// sizeOf gives how many bytes an entry of a kind has; 0 of none.
func sizeOf(kind int) int {
	for _, k := range kinds {
		if k.kind == kind {
			return k.size
		}
	}
	return 0
}

// model lays an entry by the chapter's words, with the library's own numbers.
func model(e api.Entry) []byte {
	b := binary.BigEndian.AppendUint64([]byte{byte(e.Kind)}, uint64(e.Time))
	if e.Kind == api.EntryGrant {
		b = binary.BigEndian.AppendUint32(b, e.Sub)
	}
	if e.Kind == api.EntryGrant || e.Kind == api.EntryRelease {
		b = binary.BigEndian.AppendUint32(b, e.Addr)
		b = binary.BigEndian.AppendUint16(b, uint16(e.Block))
	}
	return b
}

// well says, by the chapter's words, whether an entry may be.
func well(e api.Entry) bool {
	inTime := 0 <= e.Time && e.Time <= api.MaxTime
	inBlock := 0 <= e.Block && e.Block <= 65535
	boot := e.Kind == api.EntryBoot && e.Sub == 0 && e.Addr == 0 && e.Block == 0
	grant := e.Kind == api.EntryGrant && inBlock
	release := e.Kind == api.EntryRelease && inBlock && e.Sub == 0
	return inTime && (boot || grant || release)
}

// fault says, in the chapter's own order, what Decode answers of b.
func fault(b []byte) api.Errno {
	if len(b) == 0 {
		return api.ErrShort
	}
	n := sizeOf(int(b[0]))
	if n == 0 {
		return api.ErrForm
	}
	if len(b) < n {
		return api.ErrShort
	}
	if len(b) > n {
		return api.ErrLong
	}
	if binary.BigEndian.Uint64(b[1:]) > api.MaxTime {
		return api.ErrArg
	}
	return api.OK
}

// may asks that an entry may be and has these bytes, there and back.
func may(t *testing.T, what string, e api.Entry, want []byte) {
	t.Helper()
	if bad := entry.Check(e); bad != api.OK {
		t.Errorf("%s: Check(%v): %v", what, e, bad)
	}
	if b, bad := entry.Encode(e); bad != api.OK || !bytes.Equal(b, want) {
		t.Errorf("%s: Encode(%v): %v, %v, want %v", what, e, b, bad, want)
	}
	decodes(t, what, want, e)
}

// mayNot asks that an entry is refused.
func mayNot(t *testing.T, what string, e api.Entry) {
	t.Helper()
	if bad := entry.Check(e); bad != api.ErrArg {
		t.Errorf("%s: Check(%v): %v", what, e, bad)
	}
	if b, bad := entry.Encode(e); bad != api.ErrArg || len(b) != 0 {
		t.Errorf("%s: Encode(%v): %v, %v", what, e, b, bad)
	}
}

// decodes asks that the bytes are this entry.
func decodes(t *testing.T, what string, b []byte, want api.Entry) {
	t.Helper()
	if e, bad := entry.Decode(b); bad != api.OK || e != want {
		t.Errorf("%s: Decode(%v): %v, %v, want %v", what, b, e, bad, want)
	}
}

// refused asks that the bytes are none, for this reason.
func refused(t *testing.T, what string, b []byte, want api.Errno) {
	t.Helper()
	if e, bad := entry.Decode(b); bad != want || e != (api.Entry{}) {
		t.Errorf("%s: Decode(%v): %v, %v, want %v", what, b, e, bad, want)
	}
}

// timed gives n bytes of a kind, of which those that are Time's say this as far as they reach; others are 7.
func timed(kind byte, time uint64, n int) []byte {
	b := binary.BigEndian.AppendUint64([]byte{kind}, time)
	return slices.Concat(b, bytes.Repeat([]byte{7}, 300))[:n]
}

// roomy gives bytes that have spare room behind them, filled with a mark, and a look at all of it.
func roomy(b []byte) (list, whole []byte) {
	whole = append(slices.Clone(b), bytes.Repeat([]byte{0xa5}, 64)...)
	return whole[:len(b)], whole
}

// spoil writes over all of a list that was answered, its spare room too.
func spoil(b []byte) {
	for i := range b[:cap(b)] {
		b[:cap(b)][i] = 77
	}
}

// The chapter's examples.
func TestExamplesOfTheChapter(t *testing.T) {
	may(t, "the example", api.Entry{Kind: api.EntryBoot, Time: 5}, []byte{1, 0, 0, 0, 0, 0, 0, 0, 5})
	refused(t, "none", nil, api.ErrShort)
	refused(t, "9", []byte{9}, api.ErrForm)
	refused(t, "3 and 8 noughts", []byte{3, 0, 0, 0, 0, 0, 0, 0, 0}, api.ErrShort)
}

// P9.1: of each kind an entry whose bytes are written out, each of them another one.
func TestBytesOfEachKind(t *testing.T) {
	const time = 0x8182838485
	may(t, "boot", api.Entry{Kind: api.EntryBoot, Time: time},
		[]byte{1, 0, 0, 0, 0x81, 0x82, 0x83, 0x84, 0x85})
	may(t, "grant", api.Entry{Kind: api.EntryGrant, Time: time, Sub: 0x91929394, Addr: 0xa1a2a3a4, Block: 0xb1b2},
		[]byte{2, 0, 0, 0, 0x81, 0x82, 0x83, 0x84, 0x85, 0x91, 0x92, 0x93, 0x94, 0xa1, 0xa2, 0xa3, 0xa4, 0xb1, 0xb2})
	may(t, "release", api.Entry{Kind: api.EntryRelease, Time: time, Addr: 0xa1a2a3a4, Block: 0xb1b2},
		[]byte{3, 0, 0, 0, 0x81, 0x82, 0x83, 0x84, 0x85, 0xa1, 0xa2, 0xa3, 0xa4, 0xb1, 0xb2})
	may(t, "boot at the last time", api.Entry{Kind: api.EntryBoot, Time: api.MaxTime},
		[]byte{1, 0, 0, 1, 0, 0, 0, 0, 0})
}

// P9.1: Time at its limits, one past them, and far, of each kind.
func TestTimeAtItsLimits(t *testing.T) {
	for _, k := range kinds {
		for _, time := range []int64{0, 1, 255, 256, 1<<32 - 1, 1 << 32, api.MaxTime - 1, api.MaxTime} {
			e := api.Entry{Kind: k.kind, Time: time}
			may(t, "a time that may be", e, model(e))
		}
		for _, time := range []int64{-1, -2, -256, -1 << 32, -api.MaxTime, math.MinInt64, math.MinInt64 + 1, api.MaxTime + 1, api.MaxTime + 2, 2 * api.MaxTime, 1 << 62, math.MaxInt64} {
			mayNot(t, "a time that may not be", api.Entry{Kind: k.kind, Time: time})
		}
	}
}

// P9.1: Block at its limits, one past them, and far, of a grant and a release.
func TestBlockAtItsLimits(t *testing.T) {
	for _, kind := range []int{api.EntryGrant, api.EntryRelease} {
		for _, block := range []int{0, 1, 255, 256, 257, 32767, 32768, 65534, 65535} {
			e := api.Entry{Kind: kind, Block: block}
			may(t, "a block that may be", e, model(e))
		}
		for _, block := range []int{-1, -2, -256, -65535, -65536, 65536, 65537, 131072, 1 << 31, 1 << 32, 1<<32 + 1, math.MinInt, math.MaxInt} {
			mayNot(t, "a block that may not be", api.Entry{Kind: kind, Block: block})
		}
	}
}

// P9.1: Sub and Addr may be any number where a kind has them, 0 too.
func TestSubAndAddrMayBeAny(t *testing.T) {
	numbers := []uint32{0, 1, 255, 256, 1 << 24, 1<<31 - 1, 1 << 31, math.MaxUint32 - 1, math.MaxUint32}
	for _, addr := range numbers {
		for _, sub := range numbers {
			e := api.Entry{Kind: api.EntryGrant, Time: 6, Sub: sub, Addr: addr, Block: 7}
			may(t, "a grant", e, model(e))
		}
		e := api.Entry{Kind: api.EntryRelease, Time: 6, Addr: addr, Block: 7}
		may(t, "a release", e, model(e))
	}
}

// P9.1: each field set that an entry of that kind must not have, by itself and with all others.
func TestFieldsThatAKindHasNot(t *testing.T) {
	for _, n := range []uint32{1, 2, 256, 1 << 16, 1 << 31, math.MaxUint32} {
		mayNot(t, "a boot's Sub", api.Entry{Kind: api.EntryBoot, Time: 5, Sub: n})
		mayNot(t, "a boot's Addr", api.Entry{Kind: api.EntryBoot, Time: 5, Addr: n})
		mayNot(t, "a boot's Sub and Addr", api.Entry{Kind: api.EntryBoot, Time: 5, Sub: n, Addr: n})
		mayNot(t, "a release's Sub", api.Entry{Kind: api.EntryRelease, Time: 5, Sub: n})
		mayNot(t, "a release's Sub beside an Addr and a Block", api.Entry{Kind: api.EntryRelease, Time: 5, Sub: n, Addr: 1, Block: 1})
	}
	for _, n := range []int{-1, 1, 255, 65535, 65536, math.MinInt, math.MaxInt} {
		mayNot(t, "a boot's Block", api.Entry{Kind: api.EntryBoot, Time: 5, Block: n})
		mayNot(t, "a boot's Addr and Block", api.Entry{Kind: api.EntryBoot, Time: 5, Addr: 1, Block: n})
	}
}

// P9.1: kinds that are none, those too whose lowest byte is one.
func TestKindsThatAreNone(t *testing.T) {
	list := []int{math.MinInt, math.MinInt + 1, math.MinInt + 2, math.MaxInt, 1 << 32, 1<<32 + 1, 65536, 65536 + 2, 65536 + 3}
	for kind := -260; kind < 520; kind++ {
		list = append(list, kind)
	}
	for _, kind := range list {
		if sizeOf(kind) != 0 {
			continue
		}
		mayNot(t, "no kind", api.Entry{Kind: kind})
		mayNot(t, "no kind", api.Entry{Kind: kind, Time: 5})
		mayNot(t, "no kind", api.Entry{Kind: kind, Time: 5, Addr: 2, Block: 3})
		mayNot(t, "no kind", api.Entry{Kind: kind, Time: 5, Sub: 1, Addr: 2, Block: 3})
	}
	mayNot(t, "nothing", api.Entry{})
}

// P9.1: each field of some numbers with each of all others, against the chapter's words.
func TestCheckOfAllTogether(t *testing.T) {
	for _, kind := range []int{-1, 0, 1, 2, 3, 4, 258} {
		for _, time := range []int64{-1, 0, 5, api.MaxTime, api.MaxTime + 1} {
			for _, sub := range []uint32{0, 1, math.MaxUint32} {
				for _, addr := range []uint32{0, 1, math.MaxUint32} {
					for _, block := range []int{-1, 0, 1, 65535, 65536} {
						e := api.Entry{Kind: kind, Time: time, Sub: sub, Addr: addr, Block: block}
						if well(e) {
							may(t, "all together", e, model(e))
						} else {
							mayNot(t, "all together", e)
						}
					}
				}
			}
		}
	}
}

// P9.1: bytes of each length up to one more than the longest kind has, of each first byte.
func TestDecodeOfEachLengthAndFirstByte(t *testing.T) {
	for _, none := range [][]byte{nil, {}, {1}, {2}, {3}} {
		refused(t, "too few", none, api.ErrShort)
	}
	for c := range 256 {
		for n := 1; n <= 20; n++ {
			b := timed(byte(c), 5, n)
			if want := fault(b); want != api.OK {
				refused(t, "each length", b, want)
				continue
			}
			e := api.Entry{Kind: c, Time: 5}
			if c != api.EntryBoot {
				e.Addr, e.Block = 0x07070707, 0x0707
			}
			if c == api.EntryGrant {
				e.Sub = 0x07070707
			}
			decodes(t, "each length", b, e)
		}
	}
}

// P9.1: the lengths around each kind's own, written out.
func TestDecodeAroundEachKindsLength(t *testing.T) {
	for _, k := range kinds {
		for n := 1; n < k.size; n++ {
			refused(t, "too few", timed(byte(k.kind), 5, n), api.ErrShort)
			refused(t, "too few of more", timed(byte(k.kind), 5, k.size)[:n], api.ErrShort)
		}
		for _, more := range []int{1, 2, 4, 10, 256} {
			refused(t, "too many", timed(byte(k.kind), 5, k.size+more), api.ErrLong)
		}
		refused(t, "a nought behind", append(timed(byte(k.kind), 5, k.size), 0), api.ErrLong)
		refused(t, "twice", slices.Concat(timed(byte(k.kind), 5, k.size), timed(byte(k.kind), 5, k.size)), api.ErrLong)
	}
}

// P9.1: a Time at its limit and above it in bytes of each kind, that which is below 0 as a number with a sign too.
func TestDecodeOfTimes(t *testing.T) {
	for _, k := range kinds {
		for _, time := range []uint64{0, 1, 256, 1 << 39, api.MaxTime - 1, api.MaxTime} {
			b := timed(byte(k.kind), time, k.size)
			e, bad := entry.Decode(b)
			if bad != api.OK || e.Time != int64(time) || e.Kind != k.kind {
				t.Errorf("Decode(%v): %v, %v", b, e, bad)
			}
		}
		for _, time := range []uint64{api.MaxTime + 1, api.MaxTime + 256, 2 * api.MaxTime, 1<<62 + 5, 1<<63 - 1, 1 << 63, 1<<63 + 5, math.MaxUint64 - 4, math.MaxUint64} {
			refused(t, "a time above the last", timed(byte(k.kind), time, k.size), api.ErrArg)
		}
		for bit := 41; bit < 64; bit++ {
			refused(t, "one bit above the last", timed(byte(k.kind), 1<<bit, k.size), api.ErrArg)
		}
	}
}

// P9.1: of two faults at once the one that comes first.
func TestDecodeTellsTheFirstFault(t *testing.T) {
	for _, kind := range []byte{0, 4, 9, 128, 255} {
		for n := 1; n <= 40; n++ {
			refused(t, "no kind, and whatever length", timed(kind, 5, n), api.ErrForm)
			refused(t, "no kind, and a time above the last", timed(kind, math.MaxUint64, n), api.ErrForm)
		}
	}
	for _, k := range kinds {
		for n := 1; n < k.size; n++ {
			refused(t, "too few, and a time above the last", timed(byte(k.kind), math.MaxUint64, n), api.ErrShort)
		}
		for n := k.size + 1; n <= 40; n++ {
			refused(t, "too many, and a time above the last", timed(byte(k.kind), math.MaxUint64, n), api.ErrLong)
		}
		refused(t, "a time above the last alone", timed(byte(k.kind), math.MaxUint64, k.size), api.ErrArg)
	}
}

// drawn gives an entry that may be.
func drawn(r *rand.Rand) api.Entry {
	e := api.Entry{Kind: 1 + r.Intn(3), Time: r.Int63n(api.MaxTime + 1)}
	if e.Kind != api.EntryBoot {
		e.Addr, e.Block = r.Uint32(), r.Intn(65536)
	}
	if e.Kind == api.EntryGrant {
		e.Sub = r.Uint32()
	}
	return e
}

// P9.2: Decode of Encode is e, and Encode of what Decode told are the bytes.
func TestThereAndBack(t *testing.T) {
	r := rand.New(rand.NewSource(1))
	for range 20000 {
		e := drawn(r)
		may(t, "any", e, model(e))
		b, _ := entry.Encode(e)
		decodes(t, "Decode of Encode", b, e)
	}
}

// P9.2: every block there is, and each bit of the other parts, there and back.
func TestThereAndBackOfBlocksAndBits(t *testing.T) {
	for block := range 65536 {
		for _, kind := range []int{api.EntryGrant, api.EntryRelease} {
			e := api.Entry{Kind: kind, Time: 1, Addr: 2, Block: block}
			may(t, "a block", e, model(e))
		}
	}
	for bit := range 32 {
		for _, e := range []api.Entry{{Kind: api.EntryGrant, Sub: 1 << bit}, {Kind: api.EntryGrant, Addr: 1 << bit}, {Kind: api.EntryRelease, Addr: 1 << bit}} {
			may(t, "a bit", e, model(e))
		}
	}
	for bit := range 41 {
		for _, k := range kinds {
			e := api.Entry{Kind: k.kind, Time: 1 << bit}
			may(t, "a bit of Time", e, model(e))
		}
	}
}

// near gives bytes of any kind, many of them near to an entry.
func near(r *rand.Rand) []byte {
	if r.Intn(8) == 0 {
		b := make([]byte, r.Intn(24))
		r.Read(b)
		return b
	}
	b := model(drawn(r))
	if r.Intn(2) == 0 {
		b[r.Intn(len(b))] ^= byte(1 << r.Intn(8))
	}
	switch r.Intn(6) {
	case 0:
		return b[:r.Intn(len(b))]
	case 1:
		return append(b, byte(r.Intn(256)))
	}
	return b
}

// R1, R2, P9.1, P9.2: bytes of any kind.
func TestDecodeTakesAnything(t *testing.T) {
	r := rand.New(rand.NewSource(2))
	count := map[api.Errno]int{}
	for range 50000 {
		b := near(r)
		want := fault(b)
		count[want]++
		if want != api.OK {
			refused(t, "anything", b, want)
			continue
		}
		e, bad := entry.Decode(b)
		if bad != api.OK {
			t.Fatalf("Decode(%v): %v", b, bad)
		}
		may(t, "what Decode told", e, b)
	}
	for _, e := range []api.Errno{api.OK, api.ErrShort, api.ErrForm, api.ErrLong, api.ErrArg} {
		if count[e] < 100 {
			t.Errorf("%v came %d times alone", e, count[e])
		}
	}
}

// R4: what is handed in to Decode stays, its spare room too, whatever is answered; no byte behind its end is read.
func TestMemoryOfDecode(t *testing.T) {
	var inputs [][]byte
	for _, k := range kinds {
		whole := timed(byte(k.kind), 5, k.size)
		inputs = append(inputs, whole, whole[:k.size-1], append(slices.Clone(whole), 1), timed(byte(k.kind), math.MaxUint64, k.size))
	}
	for _, b := range append(inputs, nil, []byte{9}) {
		list, whole := roomy(b)
		was := slices.Clone(whole)
		first, bad := entry.Decode(list)
		if !bytes.Equal(whole, was) {
			t.Errorf("what was handed in is changed: %v", whole)
		}
		if want := fault(b); bad != want {
			t.Errorf("Decode(%v) with spare room: %v, want %v", b, bad, want)
		}
		if second, again := entry.Decode(slices.Clip(slices.Clone(b))); second != first || again != bad {
			t.Errorf("Decode(%v) hangs on what is behind: %v, %v", b, first, bad)
		}
	}
}

// R4, R5: what Encode answers is new memory, its spare room too, and hangs on nothing that was answered ahead.
func TestMemoryOfEncode(t *testing.T) {
	r := rand.New(rand.NewSource(3))
	for range 100 {
		e := drawn(r)
		first, _ := entry.Encode(e)
		second, _ := entry.Encode(e)
		spoil(first)
		_ = append(first, 78)
		if !bytes.Equal(second, model(e)) {
			t.Errorf("another answer is changed: %v, want %v", second, model(e))
		}
		may(t, "behind a spoilt answer", e, model(e))
	}
}

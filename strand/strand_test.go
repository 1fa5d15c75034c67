package strand_test

import (
	"bytes"
	"hash/crc32"
	"math/rand"
	"slices"
	"testing"

	"bailiwick/api"
	"bailiwick/sector"
	"bailiwick/strand"
)

const size = api.SectorSize

// framed builds a record's frame by the chapter's words, with the library's own CRC-32.
func framed(body []byte) []byte {
	c := crc32.ChecksumIEEE(body)
	sum := []byte{byte(c >> 24), byte(c >> 16), byte(c >> 8), byte(c)}
	return slices.Concat([]byte{90, byte(len(body))}, body, sum, []byte{165})
}

// laid gives the frames of the bodies, one behind the other.
func laid(bodies ...[]byte) []byte {
	var out []byte
	for _, b := range bodies {
		out = append(out, framed(b)...)
	}
	return out
}

// padded gives a sector's bytes: these, then noughts.
func padded(b []byte) []byte { return append(slices.Clone(b), make([]byte, size-len(b))...) }

// row gives n bytes, each another one than the one ahead.
func row(from byte, n int) []byte {
	b := make([]byte, n)
	for i := range b {
		b[i] = from + byte(i)
	}
	return b
}

// roomy gives bytes that have spare room behind them, filled with a mark, and a look at all of it.
func roomy(b []byte) (list, whole []byte) {
	whole = append(slices.Clone(b), bytes.Repeat([]byte{0xa5}, 64)...)
	return whole[:len(b)], whole
}

func disk(t *testing.T, n int) *sector.Disk {
	t.Helper()
	d, e := sector.New(n)
	if e != api.OK {
		t.Fatalf("New(%d): %v", n, e)
	}
	return d
}

// written lays a sector past the strand.
func written(t *testing.T, d *sector.Disk, at int, b []byte) {
	t.Helper()
	if e := d.Write(at, padded(b)); e != api.OK {
		t.Fatalf("Write(%d): %v", at, e)
	}
}

func opened(t *testing.T, d *sector.Disk) *strand.Strand {
	t.Helper()
	s, e := strand.Open(d)
	if e != api.OK || s == nil {
		t.Fatalf("Open: %v, %v", s, e)
	}
	return s
}

func appends(t *testing.T, s *strand.Strand, body []byte, want api.Errno) {
	t.Helper()
	if e := s.Append(body); e != want {
		t.Errorf("Append of %d bytes: %v, want %v", len(body), e, want)
	}
}

func syncs(t *testing.T, s *strand.Strand, want api.Errno) {
	t.Helper()
	if e := s.Sync(); e != want {
		t.Errorf("Sync: %v, want %v", e, want)
	}
}

func placed(t *testing.T, what string, s *strand.Strand, at, used int) {
	t.Helper()
	if a, b := s.Place(); a != at || b != used {
		t.Errorf("%s: the place is %d, %d, want %d, %d", what, a, b, at, used)
	}
}

// alike says whether two lists have the same bodies.
func alike(a, b [][]byte) bool { return slices.EqualFunc(a, b, bytes.Equal) }

func tells(t *testing.T, what string, s *strand.Strand, want ...[]byte) {
	t.Helper()
	if got := s.All(); !alike(got, want) {
		t.Errorf("%s: All is %q, want %q", what, got, want)
	}
}

func scans(t *testing.T, what string, b []byte, want ...[]byte) {
	t.Helper()
	if got := strand.Scan(b); !alike(got, want) {
		t.Errorf("%s: Scan is %q, want %q", what, got, want)
	}
}

func segments(t *testing.T, what string, s *strand.Strand, want ...int) {
	t.Helper()
	if got := s.Segments(); !slices.Equal(got, want) {
		t.Errorf("%s: Segments is %v, want %v", what, got, want)
	}
}

// has asks for a sector's bytes: these, then noughts.
func has(t *testing.T, what string, d *sector.Disk, at int, want []byte) {
	t.Helper()
	if b, e := d.Read(at); e != api.OK || !bytes.Equal(b, padded(want)) {
		t.Errorf("%s: sector %d is %v, want %v", what, at, b, padded(want))
	}
}

// The chapter's examples.
func TestExamplesOfTheChapter(t *testing.T) {
	f, e := strand.Frame([]byte("a"))
	if e != api.OK || !bytes.Equal(f, []byte{90, 1, 97, 0xe8, 0xb7, 0xbe, 0x43, 165}) {
		t.Errorf("Frame(a): %v, %v", f, e)
	}
	s := opened(t, disk(t, 4))
	appends(t, s, []byte("a"), api.OK)
	placed(t, "behind a", s, 0, 8)
	tells(t, "behind a", s, []byte("a"))
	appends(t, s, row(1, 56), api.OK)
	placed(t, "behind 56 bytes", s, 1, 63)
}

// P8.1: the frame of bodies of every length that may be.
func TestFrameOfEachLength(t *testing.T) {
	for n := 1; n <= api.MaxBody; n++ {
		for _, body := range [][]byte{row(byte(3*n), n), make([]byte, n), bytes.Repeat([]byte{255}, n), bytes.Repeat([]byte{90}, n), bytes.Repeat([]byte{165}, n)} {
			f, e := strand.Frame(body)
			if e != api.OK || !bytes.Equal(f, framed(body)) {
				t.Errorf("Frame(%v): %v, %v, want %v", body, f, e, framed(body))
			}
			scans(t, "a frame", f, body)
		}
	}
}

// P8.1: bodies that may not be.
func TestFrameRefused(t *testing.T) {
	for _, body := range [][]byte{nil, {}} {
		if f, e := strand.Frame(body); e != api.ErrArg || len(f) != 0 {
			t.Errorf("Frame of no byte: %v, %v", f, e)
		}
	}
	for _, n := range []int{api.MaxBody + 1, api.MaxBody + 2, 64, 255, 256, 257, 1000} {
		if f, e := strand.Frame(row(1, n)); e != api.ErrLong || len(f) != 0 {
			t.Errorf("Frame of %d bytes: %v, %v", n, f, e)
		}
	}
}

// P8.1: frames with each byte at each place wrong, alone and between others.
func TestScanOfWrongBytes(t *testing.T) {
	for _, body := range [][]byte{{97}, {0}, []byte("abc"), row(200, 20), row(1, api.MaxBody)} {
		whole := framed(body)
		for at := range whole {
			for c := 1; c < 256; c++ {
				b := slices.Clone(whole)
				b[at] ^= byte(c)
				scans(t, "wrong", b)
				scans(t, "wrong, behind a right one", slices.Concat(framed([]byte("ok")), b), []byte("ok"))
				scans(t, "wrong, ahead of a right one", slices.Concat(b, framed([]byte("ok"))))
			}
		}
	}
}

// P8.1: frames cut off at each length, ahead of nothing and of noughts.
func TestScanOfWhatIsCutOff(t *testing.T) {
	a, b := row(7, 5), row(50, 9)
	both := laid(a, b)
	for n := range both {
		var want [][]byte
		if n >= len(framed(a)) {
			want = [][]byte{a}
		}
		scans(t, "cut off", both[:n], want...)
		scans(t, "cut off, noughts behind", slices.Concat(both[:n], make([]byte, 20)), want...)
		scans(t, "cut off, spare room", slices.Clone(both)[:n], want...)
	}
	scans(t, "whole", both, a, b)
	longest := framed(row(1, api.MaxBody))
	for n := range longest {
		scans(t, "the longest, cut off", longest[:n])
	}
}

// P8.1: whatever stands behind the frames, and ahead of them.
func TestScanWithAnythingAround(t *testing.T) {
	a, b := []byte("a"), row(9, 30)
	both := laid(a, b)
	for c := range 256 {
		for _, n := range []int{1, 2, 7, 8, 100} {
			scans(t, "behind", slices.Concat(both, bytes.Repeat([]byte{byte(c)}, n)), a, b)
			scans(t, "ahead", slices.Concat(bytes.Repeat([]byte{byte(c)}, n), both))
		}
	}
	scans(t, "the first byte of one more", slices.Concat(both, []byte{90}), a, b)
	scans(t, "a nought between", slices.Concat(framed(a), []byte{0}, framed(b)), a)
	for _, none := range [][]byte{nil, {}, make([]byte, size), {0}, {90}, {165}, {90, 1}, {90, 56}, {90, 255}} {
		scans(t, "no frame", none)
	}
}

// P8.1: lengths that may not be, though all else is right.
func TestScanOfLengthsThatMayNotBe(t *testing.T) {
	scans(t, "no byte", framed(nil))
	scans(t, "no byte, ahead of a right one", laid(nil, []byte("a")))
	for n := api.MaxBody + 1; n < 256; n++ {
		scans(t, "too long", framed(row(byte(n), n)))
	}
	scans(t, "the longest", framed(row(1, api.MaxBody)), row(1, api.MaxBody))
}

// P8.1: a frame in another one's body is no frame of its own; any bytes may be scanned, not a sector's alone.
func TestScanOfFramesInFramesAndOfManyBytes(t *testing.T) {
	nest := framed([]byte("in"))
	scans(t, "a frame in a frame", framed(nest), nest)
	var bodies [][]byte
	for n := range 1000 {
		bodies = append(bodies, row(byte(n), 1+n%api.MaxBody))
	}
	scans(t, "many", laid(bodies...), bodies...)
	scans(t, "many, then noughts", append(laid(bodies...), make([]byte, size)...), bodies...)
}

// P8.2: Open of nil.
func TestOpenOfNil(t *testing.T) {
	if s, e := strand.Open(nil); s != nil || e != api.ErrArg {
		t.Errorf("Open(nil): %v, %v", s, e)
	}
}

// P8.2: a disk of noughts, of each size at the limits.
func TestOpenOfNoughts(t *testing.T) {
	for _, n := range []int{1, 2, api.Segment, api.MaxSectors} {
		d := disk(t, n)
		s := opened(t, d)
		placed(t, "noughts", s, 0, 0)
		tells(t, "noughts", s)
		segments(t, "noughts", s)
		if d.Ops() != 0 {
			t.Errorf("Open took %d outcomes", d.Ops())
		}
	}
}

// P8.2: the place is behind the last sector that is not all noughts, whatever stands there, and whichever byte it is.
func TestOpenFindsThePlace(t *testing.T) {
	const n = 5
	for at := range n {
		for i := range size {
			d := disk(t, n)
			b := make([]byte, size)
			b[i] = 1
			written(t, d, at, b)
			s := opened(t, d)
			placed(t, "one byte that is not 0", s, at+1, 0)
			tells(t, "no frame", s)
		}
	}
}

// P8.2: a disk whose last sector is written is full, though others are noughts.
func TestOpenOfALastSector(t *testing.T) {
	for _, n := range []int{1, 2, 40} {
		d := disk(t, n)
		written(t, d, n-1, framed([]byte("z")))
		s := opened(t, d)
		placed(t, "the last one is written", s, n, 0)
		tells(t, "the last one is written", s, []byte("z"))
		appends(t, s, []byte("a"), api.ErrFull)
		placed(t, "behind ErrFull", s, n, 0)
		if d.Ops() != 1 {
			t.Errorf("%d outcomes were taken", d.Ops())
		}
	}
}

// P8.2: sectors of noughts, of bytes that are no frame, and of frames with others behind, between one another.
func TestOpenOfMixedSectors(t *testing.T) {
	d := disk(t, 10)
	a, b, c := []byte("a"), row(1, 10), row(9, 56)
	written(t, d, 1, laid(a, b))
	written(t, d, 3, row(1, size))
	written(t, d, 4, laid(b, a, a)[:len(laid(b, a, a))-1])
	written(t, d, 5, append([]byte{0}, framed(b)...))
	written(t, d, 6, framed(c))
	wrong := laid(a, b)
	wrong[3]++
	written(t, d, 7, wrong)
	ops := d.Ops()
	s := opened(t, d)
	tells(t, "mixed", s, a, b, b, a, c)
	placed(t, "mixed", s, 8, 0)
	segments(t, "mixed", s, 5)
	if d.Ops() != ops {
		t.Errorf("Open took %d outcomes", d.Ops()-ops)
	}
	appends(t, s, a, api.OK)
	has(t, "the first Append", d, 8, framed(a))
	has(t, "noughts stay", d, 2, nil)
	has(t, "what is no frame stays", d, 3, row(1, size))
	tells(t, "behind an Append", s, a, b, b, a, c, a)
}

// P8.2: a frame that would lie across two sectors is none.
func TestOpenOfAFrameAcrossSectors(t *testing.T) {
	d := disk(t, 4)
	b := slices.Concat(laid(row(1, 50)), framed(row(2, 40)))
	written(t, d, 0, b[:size])
	written(t, d, 1, b[size:])
	s := opened(t, d)
	tells(t, "across", s, row(1, 50))
	placed(t, "across", s, 2, 0)
}

// P8.2: Open takes no outcome: those that wait are the next Append's.
func TestOpenTakesNoOutcome(t *testing.T) {
	d := disk(t, 3)
	d.Outcomes([]byte{1, 2})
	s := opened(t, d)
	appends(t, s, []byte("a"), api.ErrIO)
	syncs(t, s, api.ErrIO)
}

// P8.2: two Opens of one disk without a call between are alike, and each goes its own way then.
func TestTwoOpens(t *testing.T) {
	d := disk(t, 6)
	s := opened(t, d)
	a, b, c := []byte("a"), row(1, 20), row(2, 30)
	appends(t, s, a, api.OK)
	appends(t, s, b, api.OK)
	ops := d.Ops()
	one, two := opened(t, d), opened(t, d)
	for _, o := range []*strand.Strand{one, two} {
		tells(t, "opened", o, a, b)
		placed(t, "opened", o, 1, 0)
		segments(t, "opened", o, 2)
	}
	if d.Ops() != ops {
		t.Errorf("two Opens took %d outcomes", d.Ops()-ops)
	}
	placed(t, "the first strand", s, 0, 8+27)
	appends(t, one, c, api.OK)
	tells(t, "the one", one, a, b, c)
	tells(t, "the other", two, a, b)
	placed(t, "the one", one, 1, 37)
	placed(t, "the other", two, 1, 0)
	has(t, "the one's record", d, 1, framed(c))
}

// P8.3: Append lays the frame at the place, keeps what stood ahead of it, and takes one outcome.
func TestAppend(t *testing.T) {
	d := disk(t, 3)
	s := opened(t, d)
	a, b, c := []byte("a"), row(30, 12), row(60, 20)
	for i, body := range [][]byte{a, b, c} {
		appends(t, s, body, api.OK)
		done := [][]byte{a, b, c}[:i+1]
		placed(t, "behind it", s, 0, len(laid(done...)))
		tells(t, "behind it", s, done...)
		has(t, "behind it", d, 0, laid(done...))
		if d.Ops() != i+1 || d.Dirty() != i+1 {
			t.Errorf("%d outcomes, %d Writes behind %d Appends", d.Ops(), d.Dirty(), i+1)
		}
	}
	has(t, "the next sector", d, 1, nil)
}

// P8.3: behind the frame there are noughts, also where something else than the strand wrote there.
func TestAppendLaysNoughtsBehind(t *testing.T) {
	a, b := []byte("a"), row(1, 9)
	for _, first := range [][][]byte{nil, {a}} {
		d := disk(t, 2)
		s := opened(t, d)
		for _, body := range first {
			appends(t, s, body, api.OK)
		}
		stood := laid(first...)
		written(t, d, 0, append(stood, row(1, size-len(stood))...))
		appends(t, s, b, api.OK)
		has(t, "noughts behind", d, 0, laid(append(slices.Clone(first), b)...))
	}
}

// P8.3: frames of each length, behind others of each length: those that just fit, and those that just do not.
func TestAppendThatFitsOrNot(t *testing.T) {
	for n := 1; n <= api.MaxBody; n++ {
		for m := 1; m <= api.MaxBody; m++ {
			d := disk(t, 2)
			s := opened(t, d)
			one, two := row(1, n), row(100, m)
			appends(t, s, one, api.OK)
			appends(t, s, two, api.OK)
			tells(t, "two", s, one, two)
			if n+m+14 <= size {
				placed(t, "it fits", s, 0, n+m+14)
				has(t, "it fits", d, 0, laid(one, two))
				has(t, "it fits", d, 1, nil)
				continue
			}
			placed(t, "it does not fit", s, 1, m+7)
			has(t, "it does not fit", d, 0, framed(one))
			has(t, "it does not fit", d, 1, framed(two))
		}
	}
}

// P8.3: a sector that is filled to its last byte: the place is behind it, in this sector, till the next Append.
func TestASectorFilledWholly(t *testing.T) {
	d := disk(t, 2)
	s := opened(t, d)
	a := []byte("a")
	for range 8 {
		appends(t, s, a, api.OK)
	}
	placed(t, "filled", s, 0, size)
	has(t, "filled", d, 0, laid(a, a, a, a, a, a, a, a))
	syncs(t, s, api.OK)
	placed(t, "behind a Sync", s, 0, size)
	appends(t, s, a, api.OK)
	placed(t, "one more", s, 1, 8)
	has(t, "one more", d, 1, framed(a))
	has(t, "the one ahead", d, 0, laid(a, a, a, a, a, a, a, a))
}

// P8.3: bodies that may not be: nothing is taken, nothing changed, even where there is no room.
func TestAppendRefused(t *testing.T) {
	for _, n := range []int{1, 2} {
		d := disk(t, n)
		s := opened(t, d)
		for range n {
			appends(t, s, row(1, 50), api.OK)
		}
		d.Outcomes([]byte{1})
		for _, c := range []struct {
			body []byte
			want api.Errno
		}{{nil, api.ErrArg}, {[]byte{}, api.ErrArg}, {row(1, 57), api.ErrLong}, {row(1, 300), api.ErrLong}} {
			appends(t, s, c.body, c.want)
			placed(t, "refused", s, n-1, 57)
		}
		if d.Ops() != n {
			t.Errorf("%d outcomes behind %d Appends", d.Ops(), n)
		}
		syncs(t, s, api.ErrIO)
		placed(t, "full", s, n, 0)
		appends(t, s, nil, api.ErrArg)
		appends(t, s, row(1, 57), api.ErrLong)
		appends(t, s, row(1, 56), api.ErrFull)
	}
}

// P8.3: a disk that is full: the place is behind its last sector and stays there, for shorter bodies too, and no outcome is taken.
func TestAppendToAFullDisk(t *testing.T) {
	d := disk(t, 2)
	s := opened(t, d)
	long, a := row(1, 40), []byte("a")
	appends(t, s, long, api.OK)
	appends(t, s, long, api.OK)
	placed(t, "not full yet", s, 1, 47)
	d.Outcomes([]byte{1})
	appends(t, s, long, api.ErrFull)
	placed(t, "full", s, 2, 0)
	for range 3 {
		appends(t, s, a, api.ErrFull)
		placed(t, "full", s, 2, 0)
	}
	tells(t, "full", s, long, long)
	has(t, "full", d, 1, framed(long))
	if d.Ops() != 2 {
		t.Errorf("%d outcomes were taken", d.Ops())
	}
	syncs(t, s, api.ErrIO)
	placed(t, "a Sync that fails", s, 2, 0)
	syncs(t, s, api.OK)
	placed(t, "a Sync", s, 2, 0)
}

// P8.3: the greatest disk is filled to its last sector, and opened again.
func TestTheGreatestDisk(t *testing.T) {
	d := disk(t, api.MaxSectors)
	s := opened(t, d)
	for range api.MaxSectors {
		appends(t, s, row(1, api.MaxBody), api.OK)
	}
	placed(t, "filled", s, api.MaxSectors-1, 63)
	appends(t, s, []byte("a"), api.ErrFull)
	syncs(t, s, api.OK)
	o := opened(t, d.Crash([]byte{1}))
	placed(t, "opened", o, api.MaxSectors, 0)
	if n := len(o.All()); n != api.MaxSectors {
		t.Errorf("%d records are found", n)
	}
	segments(t, "opened", o, slices.Repeat([]int{api.Segment}, api.MaxSectors/api.Segment)...)
	segments(t, "filled", s, slices.Repeat([]int{api.Segment}, api.MaxSectors/api.Segment)...)
}

// P8.3: an Append with each outcome, behind nothing and behind a record in the same sector.
func TestAppendWithEachOutcome(t *testing.T) {
	for c := range 256 {
		for _, before := range [][][]byte{nil, {row(1, 9)}} {
			d := disk(t, 3)
			s := opened(t, d)
			for _, b := range before {
				appends(t, s, b, api.OK)
			}
			start := len(laid(before...))
			d.Outcomes([]byte{byte(c)})
			body := row(70, 20)
			both := append(slices.Clone(before), body)
			switch c % 3 {
			case 0:
				appends(t, s, body, api.OK)
				placed(t, "done, OK", s, 0, start+27)
				tells(t, "done, OK", s, both...)
				segments(t, "done, OK", s, len(both))
				has(t, "done, OK", d, 0, laid(both...))
				tells(t, "done, OK, opened", opened(t, d), both...)
			case 1:
				appends(t, s, body, api.ErrIO)
				placed(t, "not done", s, 1, 0)
				tells(t, "not done", s, before...)
				has(t, "not done", d, 0, laid(before...))
				tells(t, "not done, opened", opened(t, d), before...)
			case 2:
				appends(t, s, body, api.ErrIO)
				placed(t, "done, ErrIO", s, 1, 0)
				tells(t, "done, ErrIO", s, before...)
				has(t, "done, ErrIO", d, 0, laid(both...))
				tells(t, "done, ErrIO, opened", opened(t, d), both...)
			}
			has(t, "the next sector", d, 1, nil)
			if d.Ops() != len(both) {
				t.Errorf("outcome %d: %d were taken, want %d", c, d.Ops(), len(both))
			}
		}
	}
}

// P8.3: an Append that fails where the frame did not fit any more leaves the sector that it went to, not the one ahead alone.
func TestAppendThatFailsInTheNextSector(t *testing.T) {
	for _, outcome := range []byte{1, 2} {
		d := disk(t, 3)
		s := opened(t, d)
		appends(t, s, row(1, 40), api.OK)
		d.Outcomes([]byte{outcome})
		appends(t, s, row(2, 40), api.ErrIO)
		placed(t, "failed", s, 2, 0)
		tells(t, "failed", s, row(1, 40))
		has(t, "the one ahead", d, 0, framed(row(1, 40)))
		appends(t, s, []byte("a"), api.OK)
		placed(t, "the next", s, 2, 8)
		tells(t, "the next", s, row(1, 40), []byte("a"))
		has(t, "the next", d, 2, framed([]byte("a")))
	}
}

// P8.3: an Append that fails in the last sector leaves the disk full.
func TestAppendThatFailsInTheLastSector(t *testing.T) {
	for _, outcome := range []byte{1, 2} {
		d := disk(t, 1)
		s := opened(t, d)
		d.Outcomes([]byte{outcome})
		appends(t, s, []byte("a"), api.ErrIO)
		placed(t, "failed", s, 1, 0)
		appends(t, s, []byte("a"), api.ErrFull)
		tells(t, "failed", s)
	}
}

// P8.4: a Sync with each outcome, where the place's byte is 0, where it is not, and where it is the sector's end.
func TestSyncWithEachOutcome(t *testing.T) {
	for c := range 256 {
		want, done := api.ErrIO, c%3 != 1
		if c%3 == 0 {
			want = api.OK
		}
		for _, n := range []int{0, 1, 3, 8} {
			d := disk(t, 2)
			s := opened(t, d)
			bodies := slices.Repeat([][]byte{{97}}, n)
			for _, b := range bodies {
				appends(t, s, b, api.OK)
			}
			d.Outcomes([]byte{byte(c)})
			syncs(t, s, want)
			if want == api.OK || n == 0 {
				placed(t, "the place stays", s, 0, 8*n)
			} else {
				placed(t, "the next sector", s, 1, 0)
			}
			tells(t, "behind a Sync", s, bodies...)
			has(t, "behind a Sync", d, 0, laid(bodies...))
			has(t, "behind a Sync", d, 1, nil)
			lost := opened(t, d.Crash(slices.Repeat([]byte{1}, n)))
			if done {
				tells(t, "certain", lost, bodies...)
			} else {
				tells(t, "lost", lost)
			}
			if d.Ops() != n+1 {
				t.Errorf("outcome %d: %d were taken, want %d", c, d.Ops(), n+1)
			}
		}
	}
}

// P8.4: Syncs that fail one behind the other, and behind an Append that failed, leave one sector, not several.
func TestSyncsThatFail(t *testing.T) {
	d := disk(t, 4)
	s := opened(t, d)
	appends(t, s, []byte("a"), api.OK)
	d.Outcomes([]byte{1, 2, 1})
	for range 3 {
		syncs(t, s, api.ErrIO)
		placed(t, "one sector is left", s, 1, 0)
	}
	d.Outcomes([]byte{2, 1})
	appends(t, s, []byte("b"), api.ErrIO)
	syncs(t, s, api.ErrIO)
	placed(t, "behind an Append that failed", s, 2, 0)
	appends(t, s, []byte("c"), api.OK)
	syncs(t, s, api.OK)
	placed(t, "all is well", s, 2, 8)
	tells(t, "all is well", s, []byte("a"), []byte("c"))
	o := opened(t, d.Crash([]byte{1, 1, 1}))
	tells(t, "opened", o, []byte("a"), []byte("b"), []byte("c"))
}

// P8.4: the place of a sector that is filled, when a Sync fails on the last sector.
func TestSyncThatFailsOnTheLastSector(t *testing.T) {
	d := disk(t, 1)
	s := opened(t, d)
	appends(t, s, []byte("a"), api.OK)
	d.Outcomes([]byte{2})
	syncs(t, s, api.ErrIO)
	placed(t, "failed", s, 1, 0)
	appends(t, s, []byte("a"), api.ErrFull)
	has(t, "failed", d, 0, framed([]byte("a")))
}

// P8.4: Segments of none, of one sector's records, and of records in several segments, some without any.
func TestSegments(t *testing.T) {
	const last = 5*api.Segment - 1
	d := disk(t, 6*api.Segment)
	a := []byte("a")
	written(t, d, 0, laid(a, a))
	written(t, d, api.Segment-1, framed(a))
	written(t, d, api.Segment, laid(a, a, a, a))
	written(t, d, 3*api.Segment, row(1, 30))
	written(t, d, last, laid(a, a))
	s := opened(t, d)
	segments(t, "several", s, 3, 4, 0, 0, 2)
	placed(t, "several", s, last+1, 0)
	appends(t, s, a, api.OK)
	segments(t, "one more", s, 3, 4, 0, 0, 2, 1)
	d.Outcomes([]byte{2, 1})
	appends(t, s, a, api.ErrIO)
	appends(t, s, a, api.ErrIO)
	segments(t, "two that failed", s, 3, 4, 0, 0, 2, 1)
	segments(t, "seen at the next Open", opened(t, d), 3, 4, 0, 0, 2, 2)
}

// P8.4: Segments counts up to the last segment that has any, not up to the place.
func TestSegmentsUpToTheLastWithAny(t *testing.T) {
	d := disk(t, 3*api.Segment)
	s := opened(t, d)
	segments(t, "none", s)
	for i := range api.Segment {
		appends(t, s, row(1, api.MaxBody), api.OK)
		segments(t, "the first one", s, i+1)
	}
	d.Outcomes([]byte{1})
	appends(t, s, row(1, api.MaxBody), api.ErrIO)
	placed(t, "in the second one", s, api.Segment+1, 0)
	segments(t, "none in the second one", s, api.Segment)
	for range api.Segment {
		appends(t, s, row(1, api.MaxBody), api.OK)
	}
	segments(t, "a third one", s, 16, 15, 1)
	written(t, d, 3*api.Segment-1, row(1, 5))
	segments(t, "bytes that are no frame", opened(t, d), 16, 15, 1)
	none := disk(t, 2*api.Segment)
	written(t, none, 2*api.Segment-1, row(1, 5))
	segments(t, "none but such", opened(t, none))
}

// contents gives a disk's sectors.
func contents(t *testing.T, d *sector.Disk) [][]byte {
	t.Helper()
	var out [][]byte
	for at := range d.Size() {
		b, e := d.Read(at)
		if e != api.OK {
			t.Fatalf("Read(%d): %v", at, e)
		}
		out = append(out, b)
	}
	return out
}

// P8.5: a sector that a call failed over is not written again, whatever comes behind.
func TestNoSectorIsWrittenAgainBehindAFault(t *testing.T) {
	for seed := range 200 {
		r := rand.New(rand.NewSource(int64(seed)))
		d := disk(t, 30)
		s := opened(t, d)
		fixed := map[int][]byte{}
		for range 40 {
			d.Outcomes([]byte{byte(r.Intn(3))})
			body := row(byte(r.Intn(256)), 1+r.Intn(api.MaxBody))
			at, used := s.Place()
			// An Append that does not fit goes over the next sector.
			over := at
			if used+len(body)+7 > size {
				over++
			}
			e := api.OK
			if r.Intn(3) == 0 {
				e = s.Sync()
				over = at
				if used == 0 {
					over = d.Size()
				}
			} else {
				e = s.Append(body)
			}
			if e == api.ErrIO && over < d.Size() {
				fixed[over], _ = d.Read(over)
			}
			for at, b := range fixed {
				if now, _ := d.Read(at); !bytes.Equal(now, b) {
					t.Fatalf("seed %d: sector %d was written again: %v, was %v", seed, at, now, b)
				}
			}
		}
	}
}

// kept says whether a list has all of the other, in order, between others of its own.
func kept(list, wanted [][]byte) bool {
	for _, b := range list {
		if len(wanted) > 0 && bytes.Equal(b, wanted[0]) {
			wanted = wanted[1:]
		}
	}
	return len(wanted) == 0
}

// P8.5: crashes with every choice for the last Write, behind a Sync that was OK and one that was not, followed by Open.
func TestCrashWithEachChoice(t *testing.T) {
	a, b, c := row(1, 5), row(40, 20), row(90, 13)
	for _, outcome := range []byte{0, 1, 2} {
		d := disk(t, 4)
		s := opened(t, d)
		appends(t, s, a, api.OK)
		syncs(t, s, api.OK)
		appends(t, s, b, api.OK)
		d.Outcomes([]byte{outcome})
		s.Sync()
		certain := outcome != 1
		at, _ := s.Place()
		if want := min(int(outcome), 1); at != want {
			t.Errorf("outcome %d: the place is in sector %d", outcome, at)
		}
		appends(t, s, c, api.OK)
		for choice := range 256 {
			// The last Write is c's; b's is ahead of it, if no Sync made it certain.
			choices, start := []byte{byte(choice)}, 0
			if !certain {
				choices = []byte{1, byte(choice)}
			}
			want := [][]byte{a}
			if certain {
				want = append(want, b)
			}
			if at == 0 {
				start = len(laid(a, b))
			}
			if choice%3 == 0 || choice%3 == 2 && choice/3 >= start+len(framed(c)) {
				want = append(want, c)
			}
			o := opened(t, d.Crash(choices))
			tells(t, "crashed", o, want...)
			lost := at == 1 && (choice%3 == 1 || choice%3 == 2 && choice/3 == 0)
			if lost {
				placed(t, "crashed, nothing is left in sector 1", o, 1, 0)
			} else {
				placed(t, "crashed", o, at+1, 0)
			}
		}
	}
}

// P8.5: two Writes of one sector, and every choice for both: records are whole or not there, and those of the Sync are.
func TestCrashOfTwoWritesOfOneSector(t *testing.T) {
	a, b, c := row(1, 5), row(40, 20), row(90, 13)
	d := disk(t, 2)
	s := opened(t, d)
	appends(t, s, a, api.OK)
	syncs(t, s, api.OK)
	appends(t, s, b, api.OK)
	appends(t, s, c, api.OK)
	for x := range 256 {
		for y := range 256 {
			o := opened(t, d.Crash([]byte{byte(x), byte(y)}))
			got := o.All()
			if !alike(got, [][]byte{a}) && !alike(got, [][]byte{a, b}) && !alike(got, [][]byte{a, b, c}) {
				t.Fatalf("choice %d %d: %q", x, y, got)
			}
			if x%3 == 0 && len(got) < 2 || x%3 == 0 && y%3 == 1 && len(got) != 2 || y%3 == 0 && len(got) != 3 {
				t.Fatalf("choice %d %d: %q", x, y, got)
			}
			placed(t, "crashed", o, 1, 0)
		}
	}
}

// P8.5: what was appended behind a sector that a crash lost is found behind the noughts, and stays where it is.
func TestCrashThatLosesASectorBetween(t *testing.T) {
	d := disk(t, 6)
	s := opened(t, d)
	a, b, c := row(1, 50), row(2, 50), row(3, 50)
	for _, body := range [][]byte{a, b, c} {
		appends(t, s, body, api.OK)
	}
	left := d.Crash([]byte{0, 1, 0})
	o := opened(t, left)
	tells(t, "crashed", o, a, c)
	placed(t, "crashed", o, 3, 0)
	appends(t, o, b, api.OK)
	has(t, "the sector that was lost", left, 1, nil)
	syncs(t, o, api.OK)
	tells(t, "crashed again", opened(t, left.Crash([]byte{1, 1})), a, c, b)
}

// model is a strand as the chapter tells it: sectors as lists of bodies' frames, and an own account of the place.
type model struct {
	sectors  [][]byte
	at, used int
	all      [][]byte
	counts   map[int]int
}

func newModel(sectors [][]byte) *model {
	m := &model{sectors: sectors, counts: map[int]int{}}
	for at, b := range sectors {
		rest := b
		for {
			body, ok := front(rest)
			if !ok {
				break
			}
			m.add(at, body)
			rest = rest[len(body)+7:]
		}
		if !bytes.Equal(b, make([]byte, size)) {
			m.at = at + 1
		}
	}
	return m
}

// front tells a frame by building it anew.
func front(b []byte) ([]byte, bool) {
	for n := 1; n <= api.MaxBody && n+7 <= len(b); n++ {
		if bytes.Equal(b[:n+7], framed(b[2:2+n])) {
			return b[2 : 2+n], true
		}
	}
	return nil, false
}

func (m *model) add(at int, body []byte) {
	m.all = append(m.all, slices.Clone(body))
	m.counts[at/api.Segment]++
}

func (m *model) append(body []byte, outcome byte) (e api.Errno, taken bool) {
	if len(body) == 0 {
		return api.ErrArg, false
	}
	if len(body) > api.MaxBody {
		return api.ErrLong, false
	}
	f := framed(body)
	if m.used+len(f) > size {
		m.at, m.used = m.at+1, 0
	}
	if m.at == len(m.sectors) {
		return api.ErrFull, false
	}
	if outcome%3 != 1 {
		m.sectors[m.at] = padded(append(slices.Clone(m.sectors[m.at][:m.used]), f...))
	}
	if outcome%3 != 0 {
		m.at, m.used = m.at+1, 0
		return api.ErrIO, true
	}
	m.used += len(f)
	m.add(m.at, body)
	return api.OK, true
}

func (m *model) sync(outcome byte) api.Errno {
	if outcome%3 == 0 {
		return api.OK
	}
	if m.used != 0 {
		m.at, m.used = m.at+1, 0
	}
	return api.ErrIO
}

func (m *model) segments() []int {
	var out []int
	for at := range len(m.sectors)/api.Segment + 1 {
		if m.counts[at] > 0 {
			out = append(out, make([]int, at+1-len(out))...)
			out[at] = m.counts[at]
		}
	}
	return out
}

// as holds the strand and its disk against the model.
func (m *model) as(t *testing.T, s *strand.Strand, d *sector.Disk) {
	t.Helper()
	tells(t, "as the model", s, m.all...)
	placed(t, "as the model", s, m.at, m.used)
	segments(t, "as the model", s, m.segments()...)
	if got := contents(t, d); !alike(got, m.sectors) {
		t.Errorf("as the model: the disk has %v, want %v", got, m.sectors)
	}
}

// certainty follows which records a crash may not lose, and which it may leave.
type certainty struct{ sure, tried [][]byte }

// P8.1 to P8.5: rows of calls, with outcomes and crashes between them, against the model.
func TestAgainstTheModel(t *testing.T) {
	for seed := range 400 {
		r := rand.New(rand.NewSource(int64(seed)))
		d := disk(t, 1+r.Intn(40))
		m, s := newModel(contents(t, d)), opened(t, d)
		var c certainty
		for i := range 50 {
			outcome := byte(r.Intn(256))
			if r.Intn(3) > 0 {
				outcome = 0
			}
			switch r.Intn(10) {
			case 0, 1, 2:
				d.Outcomes([]byte{outcome})
				syncs(t, s, m.sync(outcome))
				if outcome%3 == 0 {
					c.sure = slices.Clone(m.all)
				}
			case 3:
				m, s = newModel(contents(t, d)), opened(t, d)
			case 4:
				d, s, m = crashed(t, r, d, c)
				c = certainty{sure: s.All(), tried: s.All()}
			default:
				body := append([]byte{byte(i), byte(seed)}, row(byte(r.Intn(256)), r.Intn(24))...)
				if r.Intn(12) == 0 {
					body = row(1, []int{0, 56, 57}[r.Intn(3)])
				}
				e, taken := m.append(body, outcome)
				if taken {
					d.Outcomes([]byte{outcome})
				}
				appends(t, s, body, e)
				c.tried = append(c.tried, body)
			}
			m.as(t, s, d)
		}
		if t.Failed() {
			t.Fatalf("seed %d", seed)
		}
	}
}

// crashed chooses what is left, and asks that all that was sure is found, in order, and nothing that nobody tried to append.
func crashed(t *testing.T, r *rand.Rand, d *sector.Disk, c certainty) (*sector.Disk, *strand.Strand, *model) {
	t.Helper()
	choice := make([]byte, r.Intn(30))
	r.Read(choice)
	left := d.Crash(choice)
	s := opened(t, left)
	found := s.All()
	if !kept(found, c.sure) {
		t.Errorf("found %q, certain %q", found, c.sure)
	}
	if !kept(c.tried, found) {
		t.Errorf("found %q, appended %q", found, c.tried)
	}
	return left, s, newModel(contents(t, left))
}

// R4: what is handed in is not changed, spare room included, and not kept.
func TestNothingHandedInIsChangedOrKept(t *testing.T) {
	body, bodyAll := roomy(row(1, 20))
	b, all := roomy(laid(row(1, 20), row(2, 3)))
	wasBody, was := slices.Clone(bodyAll), slices.Clone(all)
	d := disk(t, 3)
	s := opened(t, d)
	f, _ := strand.Frame(body)
	appends(t, s, body, api.OK)
	appends(t, s, body, api.OK)
	got := strand.Scan(b)
	clear(f[:cap(f)])
	if !bytes.Equal(bodyAll, wasBody) || !bytes.Equal(all, was) {
		t.Errorf("what was handed in is changed: %v, %v", bodyAll, all)
	}
	clear(bodyAll)
	clear(all)
	tells(t, "not kept", s, row(1, 20), row(1, 20))
	has(t, "not kept", d, 0, laid(row(1, 20), row(1, 20)))
	if !alike(got, [][]byte{row(1, 20), row(2, 3)}) {
		t.Errorf("Scan shares memory with what was handed in: %q", got)
	}
}

// apart fills each list of an answer to its spare room's end, and asks that no other one is changed.
func apart(t *testing.T, what string, lists [][]byte) {
	t.Helper()
	for i := range lists {
		was := make([][]byte, len(lists))
		for j, b := range lists {
			was[j] = slices.Clone(b[:cap(b)])
		}
		b := lists[i][:cap(lists[i])]
		for k := range b {
			b[k] ^= 255
		}
		for j, b := range lists {
			if j != i && !bytes.Equal(b[:cap(b)], was[j]) {
				t.Errorf("%s: lists %d and %d share memory", what, i, j)
			}
		}
	}
}

// R4: what All, Segments, Frame and Scan answer is new memory, and no two lists of one answer share any.
func TestAnswersAreNewMemory(t *testing.T) {
	d := disk(t, 40)
	s := opened(t, d)
	var bodies [][]byte
	for i := range 60 {
		bodies = append(bodies, row(byte(i), 1+i%30))
		appends(t, s, bodies[i], api.OK)
	}
	for _, o := range []*strand.Strand{s, opened(t, d)} {
		counts := o.Segments()
		was := slices.Clone(counts)
		clear(counts[:cap(counts)])
		segments(t, "behind a change of what was answered", o, was...)
		apart(t, "All", append(o.All(), o.All()...))
		tells(t, "behind a change of what was answered", o, bodies...)
		list := o.All()
		clear(list[:cap(list)])
		tells(t, "behind a change of the list", o, bodies...)
		appends(t, o, []byte("z"), api.OK)
		segments(t, "one more", o, append(was[:len(was)-1:len(was)-1], was[len(was)-1]+1)...)
	}
	b := laid(bodies...)
	apart(t, "Scan", append(strand.Scan(b), b))
	one, _ := strand.Frame(bodies[3])
	two, _ := strand.Frame(bodies[3])
	apart(t, "Frame", [][]byte{one, two, bodies[3]})
}

// R4, R5: what All answered stays as it was when others are appended.
func TestWhatWasToldStays(t *testing.T) {
	s := opened(t, disk(t, 9))
	appends(t, s, []byte("a"), api.OK)
	list, counts := s.All(), s.Segments()
	for range 20 {
		appends(t, s, []byte("b"), api.OK)
	}
	if !alike(list, [][]byte{[]byte("a")}) || !slices.Equal(counts, []int{1}) {
		t.Errorf("it is changed: %q, %v", list, counts)
	}
}

// R7: nil strands, and those that no call made.
func TestStrandsThatNoCallMade(t *testing.T) {
	var none *strand.Strand
	for _, s := range []*strand.Strand{none, {}, new(strand.Strand)} {
		for _, body := range [][]byte{nil, []byte("a"), row(1, 57)} {
			appends(t, s, body, api.ErrState)
		}
		syncs(t, s, api.ErrState)
		tells(t, "nothing", s)
		placed(t, "nothing", s, 0, 0)
		segments(t, "nothing", s)
	}
}

// R1, P8.2: a disk that no call made has no sector: nothing is found, nothing can be appended, and its Sync is what it says.
func TestOpenOfADiskThatNoCallMade(t *testing.T) {
	s := opened(t, &sector.Disk{})
	placed(t, "no sector", s, 0, 0)
	tells(t, "no sector", s)
	segments(t, "no sector", s)
	appends(t, s, []byte("a"), api.ErrFull)
	syncs(t, s, api.ErrState)
	placed(t, "no sector", s, 0, 0)
}

// Limits: many records on the greatest disk, each followed by a Sync, end soon.
func TestManyRecords(t *testing.T) {
	d := disk(t, api.MaxSectors)
	s := opened(t, d)
	var bodies [][]byte
	for i := range 8 * api.MaxSectors {
		bodies = append(bodies, []byte{byte(i)})
		appends(t, s, bodies[i], api.OK)
		syncs(t, s, api.OK)
	}
	placed(t, "filled", s, api.MaxSectors-1, size)
	appends(t, s, []byte("a"), api.ErrFull)
	tells(t, "filled", s, bodies...)
	tells(t, "opened", opened(t, d), bodies...)
	segments(t, "filled", s, slices.Repeat([]int{8 * api.Segment}, api.MaxSectors/api.Segment)...)
	if d.Ops() != 16*api.MaxSectors {
		t.Errorf("%d outcomes were taken", d.Ops())
	}
}

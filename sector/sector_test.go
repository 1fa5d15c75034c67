package sector_test

import (
	"bytes"
	"math"
	"math/rand"
	"slices"
	"testing"

	"bailiwick/api"
	"bailiwick/sector"
)

const size = api.SectorSize

var noughts = make([]byte, size)

// full gives a sector's bytes, all of them alike.
func full(c byte) []byte { return bytes.Repeat([]byte{c}, size) }

// row gives a sector's bytes, each of them another one, so that a byte in another's place is seen.
func row(first byte) []byte {
	b := make([]byte, size)
	for i := range b {
		b[i] = first + byte(i)
	}
	return b
}

// torn gives the first n bytes of a Write ahead of what stood there.
func torn(n int, over, under []byte) []byte {
	return slices.Concat(over[:n], under[n:])
}

// roomy gives bytes that have spare room behind them, filled with a mark, and a look at all of it.
func roomy(b []byte) (list, whole []byte) {
	whole = append(slices.Clone(b), bytes.Repeat([]byte{0xa5}, 64)...)
	return whole[:len(b)], whole
}

func disk(t *testing.T, n int) *sector.Disk {
	t.Helper()
	d, e := sector.New(n)
	if e != api.OK || d == nil {
		t.Fatalf("New(%d): %v, %v", n, d, e)
	}
	return d
}

// answers asks for the error.
func answers(t *testing.T, what string, e, want api.Errno) {
	t.Helper()
	if e != want {
		t.Errorf("%s: %v, want %v", what, e, want)
	}
}

// written asks that a Write is done and OK.
func written(t *testing.T, d *sector.Disk, at int, b []byte) {
	t.Helper()
	answers(t, "Write", d.Write(at, b), api.OK)
}

func synced(t *testing.T, d *sector.Disk) {
	t.Helper()
	answers(t, "Sync", d.Sync(), api.OK)
}

// reads asks what a sector has.
func reads(t *testing.T, what string, d *sector.Disk, at int, want []byte) {
	t.Helper()
	if b, e := d.Read(at); e != api.OK || !bytes.Equal(b, want) {
		t.Errorf("%s: Read(%d): %v, %v, want %v", what, at, b, e, want)
	}
}

// unread asks that a Read is refused, with nothing beside the error.
func unread(t *testing.T, what string, d *sector.Disk, at int, want api.Errno) {
	t.Helper()
	if b, e := d.Read(at); e != want || len(b) != 0 {
		t.Errorf("%s: Read(%d): %v, %v, want %v", what, at, b, e, want)
	}
}

// counts asks what Size, Dirty and Ops say.
func counts(t *testing.T, what string, d *sector.Disk, n, dirty, ops int) {
	t.Helper()
	if d.Size() != n || d.Dirty() != dirty || d.Ops() != ops {
		t.Errorf("%s: size %d, dirty %d, ops %d, want %d, %d, %d", what, d.Size(), d.Dirty(), d.Ops(), n, dirty, ops)
	}
}

// The chapter's examples, one behind the other on one disk.
func TestExamplesOfTheChapter(t *testing.T) {
	d := disk(t, 2)
	answers(t, "Write", d.Write(0, full(1)), api.OK)
	reads(t, "Crash({1})", d.Crash([]byte{1}), 0, noughts)
	reads(t, "Crash({0})", d.Crash([]byte{0}), 0, full(1))
	reads(t, "Crash({5})", d.Crash([]byte{5}), 0, torn(1, full(1), noughts))
	d.Outcomes([]byte{1, 2})
	answers(t, "Write with the outcome 1", d.Write(1, full(1)), api.ErrIO)
	answers(t, "Sync with the outcome 2", d.Sync(), api.ErrIO)
	reads(t, "behind them", d, 1, noughts)
	reads(t, "sector 0 is certain", d.Crash([]byte{1}), 0, full(1))
}

// P7.1: sizes at the limits: all sectors are noughts, nothing is dirty, nothing was taken.
func TestNew(t *testing.T) {
	for _, n := range []int{1, 2, 3, 16, api.MaxSectors - 1, api.MaxSectors} {
		d := disk(t, n)
		counts(t, "new", d, n, 0, 0)
		for at := range n {
			reads(t, "new", d, at, noughts)
		}
		unread(t, "one ahead", d, -1, api.ErrArg)
		unread(t, "one behind", d, n, api.ErrArg)
	}
}

// P7.1: sizes beyond the limits.
func TestNewRefused(t *testing.T) {
	for _, n := range []int{0, -1, -api.MaxSectors, api.MaxSectors + 1, 1 << 20, math.MaxInt, math.MinInt} {
		if d, e := sector.New(n); d != nil || e != api.ErrArg {
			t.Errorf("New(%d): %v, %v", n, d, e)
		}
	}
}

// P7.1, R5: each New makes a disk of its own.
func TestNewDisksAreApart(t *testing.T) {
	d, other := disk(t, 2), disk(t, 2)
	d.Outcomes([]byte{0, 0, 1})
	written(t, d, 0, full(1))
	synced(t, d)
	reads(t, "the other", other, 0, noughts)
	counts(t, "the other", other, 2, 0, 0)
	written(t, other, 1, full(2))
	reads(t, "the one", d, 1, noughts)
	answers(t, "the one's outcome", d.Sync(), api.ErrIO)
}

// done and answer say what an outcome means.
func done(c byte) bool { return c%3 != 1 }

func answer(c byte) api.Errno {
	if c%3 == 0 {
		return api.OK
	}
	return api.ErrIO
}

// P7.2: a Write with each outcome that a byte can be: what it answers, and what Read, Dirty, Ops and a crash say behind it.
func TestWriteWithEachOutcome(t *testing.T) {
	for c := range 256 {
		d := disk(t, 3)
		d.Outcomes([]byte{byte(c)})
		answers(t, "Write", d.Write(1, row(7)), answer(byte(c)))
		want, dirty := noughts, 0
		if done(byte(c)) {
			want, dirty = row(7), 1
		}
		reads(t, "behind it", d, 1, want)
		counts(t, "behind it", d, 3, dirty, 1)
		reads(t, "left", d.Crash([]byte{0}), 1, want)
		reads(t, "lost", d.Crash([]byte{1}), 1, noughts)
		for _, at := range []int{0, 2} {
			reads(t, "beside it", d, at, noughts)
			reads(t, "beside it, behind a crash", d.Crash(nil), at, noughts)
		}
	}
}

// P7.2: a Sync with each outcome that a byte can be, behind a Write: Read is the same, the rest hangs on whether it was done.
func TestSyncWithEachOutcome(t *testing.T) {
	for c := range 256 {
		d := disk(t, 2)
		written(t, d, 0, row(7))
		written(t, d, 1, row(9))
		d.Outcomes([]byte{byte(c)})
		answers(t, "Sync", d.Sync(), answer(byte(c)))
		reads(t, "behind it", d, 0, row(7))
		reads(t, "behind it", d, 1, row(9))
		if done(byte(c)) {
			counts(t, "done", d, 2, 0, 3)
			reads(t, "certain", d.Crash([]byte{1, 1}), 0, row(7))
			reads(t, "certain", d.Crash([]byte{1, 1}), 1, row(9))
			continue
		}
		counts(t, "not done", d, 2, 2, 3)
		reads(t, "uncertain", d.Crash([]byte{1, 1}), 0, noughts)
		reads(t, "uncertain", d.Crash([]byte{0, 1}), 0, row(7))
		reads(t, "uncertain", d.Crash([]byte{0, 1}), 1, noughts)
	}
}

// attempts does a Write or a Sync by turns, and asks that they take these outcomes.
func attempts(t *testing.T, what string, d *sector.Disk, outcomes ...byte) {
	t.Helper()
	for i, c := range outcomes {
		if i%2 == 0 {
			answers(t, what, d.Write(0, full(c)), answer(c))
		} else {
			answers(t, what, d.Sync(), answer(c))
		}
	}
}

// P7.2: outcomes are taken in their order, one by each Write and each Sync; without any that waits it is 0.
func TestOutcomesInTheirOrder(t *testing.T) {
	outcomes := []byte{1, 0, 2, 4, 3, 255, 254, 253, 0, 1, 2, 2, 1, 0, 0}
	d := disk(t, 1)
	attempts(t, "ahead of any", d, 0, 0, 0)
	d.Outcomes(outcomes)
	attempts(t, "in order", d, outcomes...)
	attempts(t, "none left", d, 0, 0, 0, 0)
	counts(t, "at the end", d, 1, 0, 3+len(outcomes)+4)
}

// P7.1: outcomes are laid behind those that wait, however many of them were taken; none are none.
func TestOutcomesBehindThoseThatWait(t *testing.T) {
	d := disk(t, 1)
	d.Outcomes([]byte{1, 0, 2})
	d.Outcomes(nil)
	d.Outcomes([]byte{})
	d.Outcomes([]byte{0, 1})
	attempts(t, "two lists", d, 1, 0)
	d.Outcomes([]byte{2, 0, 1})
	attempts(t, "a third one", d, 2, 0, 1, 2, 0, 1)
	attempts(t, "none left", d, 0, 0)
	d.Outcomes([]byte{1})
	attempts(t, "one more", d, 1, 0)
}

// P7.1: many outcomes, laid in while others are taken.
func TestManyOutcomes(t *testing.T) {
	r := rand.New(rand.NewSource(1))
	d := disk(t, 1)
	var waiting []byte
	for range 2000 {
		b := make([]byte, r.Intn(8))
		r.Read(b)
		d.Outcomes(b)
		waiting = append(waiting, b...)
		n := r.Intn(min(8, len(waiting)+1))
		attempts(t, "some of many", d, waiting[:n]...)
		waiting = waiting[n:]
	}
	attempts(t, "the rest of them", d, waiting...)
	attempts(t, "none left", d, 0, 0)
}

// P7.2: Writes of each kind that is refused: they take no outcome, and change nothing.
func TestWriteRefused(t *testing.T) {
	d := disk(t, 2)
	written(t, d, 0, row(3))
	d.Outcomes([]byte{1, 2})
	for _, c := range []struct {
		at int
		b  []byte
	}{
		{2, full(1)}, {3, full(1)}, {-1, full(1)}, {api.MaxSectors, full(1)}, {math.MaxInt, full(1)}, {math.MinInt, full(1)},
		{0, nil}, {0, []byte{}}, {0, full(1)[:1]}, {0, full(1)[:size-1]}, {0, append(full(1), 1)}, {1, make([]byte, 2*size)},
		{2, nil}, {-1, full(1)[:size-1]},
	} {
		answers(t, "a Write that is refused", d.Write(c.at, c.b), api.ErrArg)
		counts(t, "behind it", d, 2, 1, 1)
		reads(t, "behind it", d, 0, row(3))
		reads(t, "behind it", d, 1, noughts)
		reads(t, "behind it and a crash", d.Crash([]byte{1}), 0, noughts)
	}
	attempts(t, "the outcomes still wait", d, 1, 2)
}

// P7.2: at the greatest disk's ends, and beyond them.
func TestEndsOfTheGreatestDisk(t *testing.T) {
	d := disk(t, api.MaxSectors)
	written(t, d, 0, row(1))
	written(t, d, api.MaxSectors-1, row(2))
	answers(t, "beyond", d.Write(api.MaxSectors, row(3)), api.ErrArg)
	reads(t, "the first", d, 0, row(1))
	reads(t, "the last", d, api.MaxSectors-1, row(2))
	reads(t, "between them", d, 1, noughts)
	left := d.Crash([]byte{1, 0})
	reads(t, "the first, lost", left, 0, noughts)
	reads(t, "the last, left", left, api.MaxSectors-1, row(2))
	counts(t, "crashed", left, api.MaxSectors, 0, 0)
}

// P7.2: Read, Size, Dirty, Ops, Outcomes and Crash take no outcome, and change nothing.
func TestWhatTakesNoOutcome(t *testing.T) {
	d := disk(t, 2)
	written(t, d, 1, row(1))
	d.Outcomes([]byte{1, 2})
	for range 3 {
		reads(t, "a Read", d, 1, row(1))
		unread(t, "a Read that is refused", d, 2, api.ErrArg)
		counts(t, "the counts", d, 2, 1, 1)
		d.Outcomes(nil)
		d.Crash([]byte{1})
	}
	attempts(t, "the outcomes still wait", d, 1, 2, 0)
}

// P7.2: Reads where there is no sector.
func TestReadRefused(t *testing.T) {
	d := disk(t, 2)
	written(t, d, 0, full(1))
	written(t, d, 1, full(1))
	for _, at := range []int{-1, 2, 3, -2, api.MaxSectors, math.MaxInt, math.MinInt} {
		unread(t, "no sector", d, at, api.ErrArg)
	}
}

// P7.2: Dirty counts Writes that were done, of one sector too, since the last Sync that was done; Ops counts all that took an outcome.
func TestDirtyAndOps(t *testing.T) {
	d := disk(t, 2)
	synced(t, d)
	counts(t, "a Sync of nothing", d, 2, 0, 1)
	for i := range 5 {
		written(t, d, 0, full(9))
		counts(t, "Writes of one sector", d, 2, i+1, i+2)
	}
	d.Outcomes([]byte{1, 2, 1, 2})
	d.Write(1, full(1))
	counts(t, "a Write that was not done", d, 2, 5, 7)
	d.Write(1, full(1))
	counts(t, "a Write that was done, with ErrIO", d, 2, 6, 8)
	d.Sync()
	counts(t, "a Sync that was not done", d, 2, 6, 9)
	d.Sync()
	counts(t, "a Sync that was done, with ErrIO", d, 2, 0, 10)
	written(t, d, 1, full(2))
	counts(t, "a Write behind it", d, 2, 1, 11)
	synced(t, d)
	synced(t, d)
	counts(t, "two Syncs", d, 2, 0, 13)
}

// P7.2: the last Write of a sector is read, certain or not, whatever others were written between.
func TestReadOfTheLastWrite(t *testing.T) {
	d := disk(t, 3)
	written(t, d, 1, row(1))
	written(t, d, 2, row(2))
	written(t, d, 1, row(3))
	reads(t, "the last Write", d, 1, row(3))
	synced(t, d)
	reads(t, "behind a Sync", d, 1, row(3))
	written(t, d, 1, row(4))
	reads(t, "behind a further Write", d, 1, row(4))
	reads(t, "the other sector", d, 2, row(2))
	reads(t, "none written", d, 0, noughts)
}

// kept says how many of a Write's first bytes a choice leaves.
func kept(c byte) int {
	n := map[byte]int{0: size, 1: 0, 2: int(c) / 3}[c%3]
	return min(n, size)
}

// P7.3: one Write and each choice that a byte can be: none, some, all of its bytes, and more than there are.
func TestCrashWithEachChoice(t *testing.T) {
	d := disk(t, 2)
	written(t, d, 1, row(100))
	synced(t, d)
	written(t, d, 1, row(1))
	for c := range 256 {
		left := d.Crash([]byte{byte(c)})
		reads(t, "crashed", left, 1, torn(kept(byte(c)), row(1), row(100)))
		reads(t, "beside it", left, 0, noughts)
		counts(t, "crashed", left, 2, 0, 0)
	}
	// The edges in plain numbers: 2 leaves 0 bytes, 5 one, 191 63, 194 64, 197 would leave 65, 254 84.
	for c, n := range map[byte]int{2: 0, 5: 1, 191: 63, 194: 64, 197: 64, 254: 64, 0: 64, 255: 64, 1: 0, 253: 0} {
		reads(t, "an edge", d.Crash([]byte{c}), 1, torn(n, row(1), row(100)))
	}
}

// P7.3: fewer choices than Writes: the others are left; more choices than Writes: they count for nothing.
func TestCrashWithFewerAndMoreChoices(t *testing.T) {
	d := disk(t, 3)
	for at := range 3 {
		written(t, d, at, full(byte(at+1)))
	}
	for _, c := range []struct {
		choice []byte
		lost   [3]bool
	}{
		{nil, [3]bool{}}, {[]byte{}, [3]bool{}}, {[]byte{1}, [3]bool{true}}, {[]byte{0, 1}, [3]bool{false, true}}, {[]byte{1, 1}, [3]bool{true, true}},
		{[]byte{1, 0, 1}, [3]bool{true, false, true}}, {[]byte{0, 0, 1, 1, 1}, [3]bool{false, false, true}}, {[]byte{1, 1, 1, 0, 0, 0}, [3]bool{true, true, true}},
	} {
		left := d.Crash(c.choice)
		for at, lost := range c.lost {
			want := full(byte(at + 1))
			if lost {
				want = noughts
			}
			reads(t, "crashed", left, at, want)
		}
	}
}

// P7.3: several Writes of one sector: each by its own choice, over what is there by then.
func TestCrashOfWritesOfOneSector(t *testing.T) {
	d := disk(t, 1)
	written(t, d, 0, row(1))
	written(t, d, 0, row(50))
	written(t, d, 0, row(150))
	for _, c := range []struct {
		choice, want []byte
	}{
		{[]byte{0, 0, 0}, row(150)}, {[]byte{1, 1, 0}, row(150)}, {[]byte{0, 0, 1}, row(50)}, {[]byte{1, 0, 1}, row(50)},
		{[]byte{0, 1, 1}, row(1)}, {[]byte{1, 1, 1}, noughts}, {[]byte{1}, row(150)}, {[]byte{0, 1}, row(150)},
		{[]byte{0, 32, 1}, torn(10, row(50), row(1))}, {[]byte{1, 32, 1}, torn(10, row(50), noughts)},
		{[]byte{0, 32, 17}, torn(5, row(150), torn(10, row(50), row(1)))}, {[]byte{0, 17, 32}, torn(10, row(150), row(1))},
		{[]byte{32, 1, 17}, torn(5, row(150), torn(10, row(1), noughts))}, {[]byte{0, 0, 2}, row(50)}, {[]byte{0, 2, 194}, row(150)},
	} {
		reads(t, "crashed", d.Crash(c.choice), 0, c.want)
	}
}

// P7.3: only Writes that were done have a choice: those that were not, or were refused, are passed by.
func TestChoicesOfWritesThatWereDone(t *testing.T) {
	d := disk(t, 3)
	d.Outcomes([]byte{1, 2, 1, 0})
	d.Write(0, full(1))
	d.Write(1, full(2))
	d.Write(9, full(9))
	d.Sync()
	d.Write(2, full(3))
	counts(t, "two were done", d, 3, 2, 4)
	left := d.Crash([]byte{1, 0})
	reads(t, "not done", left, 0, noughts)
	reads(t, "the first that was done", left, 1, noughts)
	reads(t, "the second", left, 2, full(3))
	left = d.Crash([]byte{0, 1})
	reads(t, "not done", left, 0, noughts)
	reads(t, "the first that was done", left, 1, full(2))
	reads(t, "the second", left, 2, noughts)
}

// P7.3: the new disk has no outcomes, and all that it has is certain.
func TestCrashIsCertainAndWithoutOutcomes(t *testing.T) {
	d := disk(t, 2)
	written(t, d, 0, row(1))
	written(t, d, 1, row(2))
	d.Outcomes([]byte{1, 2})
	left := d.Crash([]byte{32})
	for _, choice := range [][]byte{nil, {1}, {1, 1, 1}, {2, 2}} {
		again := left.Crash(choice)
		reads(t, "crashed twice", again, 0, torn(10, row(1), noughts))
		reads(t, "crashed twice", again, 1, row(2))
		counts(t, "crashed twice", again, 2, 0, 0)
	}
	attempts(t, "no outcomes", left, 0, 0, 0)
	counts(t, "the new one", left, 2, 1, 3)
	reads(t, "the new one", left, 0, noughts)
	left.Outcomes([]byte{2})
	attempts(t, "its own outcome", left, 2)
}

// P7.3: the disk that crashed stays as it is, and each crash is apart from it and from the others.
func TestCrashLeavesTheDisk(t *testing.T) {
	d := disk(t, 2)
	written(t, d, 0, row(1))
	synced(t, d)
	written(t, d, 0, row(2))
	d.Outcomes([]byte{1})
	left, other := d.Crash([]byte{1}), d.Crash([]byte{0})
	counts(t, "the one that crashed", d, 2, 1, 3)
	written(t, left, 0, row(3))
	written(t, left, 1, row(4))
	synced(t, left)
	left.Outcomes([]byte{2, 2})
	for range 2 {
		reads(t, "the one that crashed", d, 0, row(2))
		reads(t, "the one that crashed", d, 1, noughts)
		reads(t, "it crashes again", d.Crash([]byte{1}), 0, row(1))
		reads(t, "it crashes again", d.Crash([]byte{0}), 0, row(2))
		reads(t, "the other crash", other, 0, row(2))
		reads(t, "the other crash", other, 1, noughts)
	}
	counts(t, "the other crash", other, 2, 0, 0)
	answers(t, "its outcome still waits", d.Write(1, row(5)), api.ErrIO)
	written(t, d, 1, row(6))
	synced(t, d)
	reads(t, "the new one", left, 0, row(3))
	reads(t, "the new one", left, 1, row(4))
	reads(t, "the new one, crashed", left.Crash([]byte{1}), 1, row(4))
	counts(t, "the new one", left, 2, 0, 3)
}

// P7.4: behind a Sync that is done, OK or not, the choice counts for nothing; behind one that is not, it counts.
func TestChoiceBehindASync(t *testing.T) {
	for _, outcome := range []byte{0, 1, 2, 3, 4, 5} {
		d := disk(t, 2)
		written(t, d, 0, row(1))
		written(t, d, 0, row(2))
		written(t, d, 1, row(3))
		d.Outcomes([]byte{outcome})
		d.Sync()
		for _, choice := range [][]byte{{1, 1, 1}, {2, 5, 8}, {1}, {0, 1, 2, 3}, {1, 0, 1}, {0, 1}} {
			left := d.Crash(choice)
			b, _ := left.Read(0)
			c, _ := left.Read(1)
			as := bytes.Equal(b, row(2)) && bytes.Equal(c, row(3))
			if done(outcome) && !as {
				t.Errorf("outcome %d, choice %v: %v, %v", outcome, choice, b, c)
			}
		}
		lost := d.Crash([]byte{1, 1, 1})
		if !done(outcome) {
			reads(t, "a Sync that was not done", lost, 0, noughts)
			reads(t, "a Sync that was not done", lost, 1, noughts)
		}
	}
}

// P7.4: what was certain and not written again is found, whatever becomes of others.
func TestWhatIsCertainIsFound(t *testing.T) {
	for c := range 256 {
		d := disk(t, 3)
		written(t, d, 0, row(1))
		written(t, d, 1, row(2))
		synced(t, d)
		written(t, d, 1, row(3))
		written(t, d, 2, row(4))
		left := d.Crash([]byte{byte(c), byte(255 - c)})
		reads(t, "not written again", left, 0, row(1))
		reads(t, "written again", left, 1, torn(kept(byte(c)), row(3), row(2)))
		reads(t, "written once", left, 2, torn(kept(byte(255-c)), row(4), noughts))
	}
}

// model is a disk as the chapter tells it, by looking at all that ever befell.
type model struct {
	n        int
	start    map[int][]byte
	waiting  []byte
	ops      int
	befallen []step
}

// step is a Write that was done, or a Sync that was (at -1).
type step struct {
	at int
	b  []byte
}

func (m *model) outcome() byte {
	m.ops++
	if len(m.waiting) == 0 {
		return 0
	}
	c := m.waiting[0]
	m.waiting = m.waiting[1:]
	return c
}

func (m *model) attempt(s step) api.Errno {
	c := m.outcome()
	if done(c) {
		m.befallen = append(m.befallen, s)
	}
	return answer(c)
}

// split answers how many steps are certain.
func (m *model) split() int {
	for i := len(m.befallen); i > 0; i-- {
		if m.befallen[i-1].at < 0 {
			return i
		}
	}
	return 0
}

// found answers a sector's bytes behind a crash with the choice.
func (m *model) found(at int, choice []byte) []byte {
	b := slices.Clone(m.start[at])
	if b == nil {
		b = make([]byte, size)
	}
	for i, s := range m.befallen {
		n := size
		if j := i - m.split(); j >= 0 && j < len(choice) {
			n = kept(choice[j])
		}
		if s.at == at {
			copy(b, s.b[:n])
		}
	}
	return b
}

func (m *model) crash(choice []byte) *model {
	next := &model{n: m.n, start: map[int][]byte{}}
	for at := range m.n {
		next.start[at] = m.found(at, choice)
	}
	return next
}

// as holds the disk against the model.
func (m *model) as(t *testing.T, d *sector.Disk) {
	t.Helper()
	counts(t, "as the model", d, m.n, len(m.befallen)-m.split(), m.ops)
	for at := range m.n {
		reads(t, "as the model", d, at, m.found(at, nil))
	}
}

func random(r *rand.Rand, n int) []byte {
	b := make([]byte, n)
	r.Read(b)
	return b
}

// P7.1 to P7.4: rows of calls, with crashes between them, against the model.
func TestAgainstTheModel(t *testing.T) {
	for seed := range 300 {
		r := rand.New(rand.NewSource(int64(seed)))
		m := &model{n: 1 + r.Intn(4)}
		d := disk(t, m.n)
		for range 60 {
			switch r.Intn(8) {
			case 0:
				b := random(r, r.Intn(4))
				m.waiting = append(m.waiting, b...)
				d.Outcomes(b)
			case 1:
				answers(t, "Sync", d.Sync(), m.attempt(step{at: -1}))
			case 2:
				choice := random(r, r.Intn(12))
				m.crash(choice).as(t, d.Crash(choice))
				if r.Intn(4) == 0 {
					m, d = m.crash(choice), d.Crash(choice)
				}
			case 3:
				answers(t, "Write", d.Write(m.n, full(1)), api.ErrArg)
			default:
				s := step{r.Intn(m.n), random(r, size)}
				answers(t, "Write", d.Write(s.at, s.b), m.attempt(s))
			}
			m.as(t, d)
		}
		if t.Failed() {
			t.Fatalf("seed %d", seed)
		}
	}
}

// R4: what is handed in is not changed, spare room included.
func TestNothingHandedInIsChanged(t *testing.T) {
	b, bytesAll := roomy(row(1))
	outcomes, outcomesAll := roomy([]byte{0, 2, 1})
	choice, choiceAll := roomy([]byte{32, 1, 2})
	was := [][]byte{slices.Clone(bytesAll), slices.Clone(outcomesAll), slices.Clone(choiceAll)}
	d := disk(t, 2)
	d.Outcomes(outcomes)
	d.Outcomes([]byte{2, 2, 2})
	for at := range 2 {
		d.Write(at, b)
		d.Write(at, row(9))
	}
	d.Crash(choice).Write(0, row(8))
	d.Sync()
	for i, all := range [][]byte{bytesAll, outcomesAll, choiceAll} {
		if !bytes.Equal(all, was[i]) {
			t.Errorf("list %d is changed: %v, was %v", i, all, was[i])
		}
	}
}

// R4: what is handed in is not kept: it may be changed behind the call.
func TestNothingHandedInIsKept(t *testing.T) {
	d := disk(t, 1)
	b, bytesAll := roomy(row(1))
	outcomes, outcomesAll := roomy([]byte{0, 0, 1})
	choice := []byte{1}
	d.Outcomes(outcomes)
	written(t, d, 0, b)
	left := d.Crash(nil)
	lost := d.Crash(choice)
	clear(bytesAll)
	clear(outcomesAll)
	clear(choice)
	reads(t, "what was written", d, 0, row(1))
	reads(t, "what was left", left, 0, row(1))
	reads(t, "what was lost", lost, 0, noughts)
	reads(t, "a later crash", d.Crash(nil), 0, row(1))
	attempts(t, "outcomes that wait", d, 0, 1)
}

// R4: the bytes of a Write are not kept ahead of its Sync either.
func TestBytesOfAWriteAreNotKept(t *testing.T) {
	d := disk(t, 1)
	b := row(1)
	written(t, d, 0, b)
	clear(b)
	synced(t, d)
	reads(t, "certain", d.Crash([]byte{1}), 0, row(1))
}

// R4: what Read answers is new memory, spare room too.
func TestReadIsNewMemory(t *testing.T) {
	d := disk(t, 2)
	written(t, d, 0, row(1))
	written(t, d, 1, row(2))
	for range 2 {
		first, _ := d.Read(0)
		second, _ := d.Read(0)
		clear(first[:cap(first)])
		if !bytes.Equal(second, row(1)) {
			t.Errorf("two Reads share memory: %v", second)
		}
		clear(second[:cap(second)])
		reads(t, "behind a change of what was read", d, 0, row(1))
		reads(t, "the sector behind it", d, 1, row(2))
		reads(t, "a crash", d.Crash(nil), 0, row(1))
		synced(t, d)
		reads(t, "a crash behind a Sync", d.Crash([]byte{1, 1}), 0, row(1))
	}
}

// P7.2: what was read stays as it was read.
func TestWhatWasReadStays(t *testing.T) {
	d := disk(t, 1)
	written(t, d, 0, row(1))
	b, _ := d.Read(0)
	written(t, d, 0, row(2))
	synced(t, d)
	if !bytes.Equal(b, row(1)) {
		t.Errorf("a later Write changed it: %v", b)
	}
}

// R7: nil disks, and those that no call made.
func TestDisksThatNoCallMade(t *testing.T) {
	var none *sector.Disk
	for _, d := range []*sector.Disk{none, {}, new(sector.Disk)} {
		d.Outcomes([]byte{1, 2})
		for _, b := range [][]byte{nil, full(1)} {
			for _, at := range []int{0, -1, 1, math.MaxInt} {
				answers(t, "Write", d.Write(at, b), api.ErrState)
				unread(t, "Read", d, at, api.ErrState)
			}
		}
		answers(t, "Sync", d.Sync(), api.ErrState)
		counts(t, "nothing", d, 0, 0, 0)
		for _, choice := range [][]byte{nil, {1}} {
			if left := d.Crash(choice); left != nil {
				t.Errorf("Crash: %v", left)
			}
		}
	}
}

// Limits: many Writes ahead of one Sync, and many Syncs on the greatest disk, end soon.
func TestManyWrites(t *testing.T) {
	d := disk(t, api.MaxSectors)
	const many = 100000
	for i := range many {
		written(t, d, i%api.MaxSectors, full(byte(i)))
	}
	counts(t, "many Writes", d, api.MaxSectors, many, many)
	reads(t, "all but the last lost", d.Crash(bytes.Repeat([]byte{1}, many-1)), (many-1)%api.MaxSectors, full((many-1)&255))
	synced(t, d)
	for i := range many {
		written(t, d, i%api.MaxSectors, full(byte(i+1)))
		synced(t, d)
	}
	counts(t, "many Syncs", d, api.MaxSectors, 0, 3*many+1)
	reads(t, "the last one", d.Crash([]byte{1}), (many-1)%api.MaxSectors, full(many&255))
}

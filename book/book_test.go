package book_test

import (
	"bytes"
	"math"
	"math/rand"
	"slices"
	"testing"

	"bailiwick/api"
	"bailiwick/book"
	"bailiwick/entry"
	"bailiwick/sector"
	"bailiwick/strand"
	"bailiwick/trace"
)

const home = uint32(7) // the address where a test names none

func boot(time int64) api.Entry { return api.Entry{Kind: api.EntryBoot, Time: time} }

func grant(time int64, sub uint32, block int) api.Entry {
	return api.Entry{Kind: api.EntryGrant, Time: time, Sub: sub, Addr: home, Block: block}
}

func release(time int64, block int) api.Entry {
	return api.Entry{Kind: api.EntryRelease, Time: time, Addr: home, Block: block}
}

// had gives a span with an end.
func had(sub uint32, block int, from, to int64) api.Span {
	return api.Span{Sub: sub, Addr: home, Block: block, From: from, To: to}
}

// has gives a span without an end.
func has(sub uint32, block int, from int64) api.Span {
	return api.Span{Sub: sub, Addr: home, Block: block, From: from, Open: true}
}

// list makes a list of entries and lists of entries.
func list(parts ...any) []api.Entry {
	var l []api.Entry
	for _, p := range parts {
		switch x := p.(type) {
		case api.Entry:
			l = append(l, x)
		case []api.Entry:
			l = append(l, x...)
		}
	}
	return l
}

func disk(t *testing.T, n int) *sector.Disk {
	t.Helper()
	d, e := sector.New(n)
	if e != api.OK {
		t.Fatalf("New(%d): %v", n, e)
	}
	return d
}

// bytesOf gives an entry's bytes.
func bytesOf(t *testing.T, e api.Entry) []byte {
	t.Helper()
	b, bad := entry.Encode(e)
	if bad != api.OK {
		t.Fatalf("Encode(%v): %v", e, bad)
	}
	return b
}

// holding makes a disk of n sectors with these records, past the book.
func holding(t *testing.T, n int, bodies ...[]byte) *sector.Disk {
	t.Helper()
	d := disk(t, n)
	s, e := strand.Open(d)
	for _, b := range bodies {
		e = max(e, s.Append(b))
	}
	if e = max(e, s.Sync()); e != api.OK {
		t.Fatalf("a disk of %d sectors: %v", n, e)
	}
	return d
}

// written makes a disk of n sectors with these entries, past the book.
func written(t *testing.T, n int, l ...api.Entry) *sector.Disk {
	t.Helper()
	var bodies [][]byte
	for _, e := range l {
		bodies = append(bodies, bytesOf(t, e))
	}
	return holding(t, n, bodies...)
}

func opened(t *testing.T, d *sector.Disk, now int64) *book.Book {
	t.Helper()
	b, e := book.Open(d, now)
	if e != api.OK || b == nil {
		t.Fatalf("Open at %d: %v, %v", now, b, e)
	}
	return b
}

// logged gives the entries that stand on a disk, certain or not.
func logged(t *testing.T, d *sector.Disk) []api.Entry {
	t.Helper()
	s, e := strand.Open(d)
	if e != api.OK {
		t.Fatalf("the log: %v", e)
	}
	var l []api.Entry
	for _, body := range s.All() {
		if e, bad := entry.Decode(body); bad == api.OK {
			l = append(l, e)
		}
	}
	return l
}

// lost is a choice by which a crash leaves nothing of what is not certain.
var lost = bytes.Repeat([]byte{1}, 4096)

// on asks what stands on a disk: all that it reads, and what of it is certain.
func on(t *testing.T, what string, d *sector.Disk, all, certain []api.Entry) {
	t.Helper()
	if got := logged(t, d); !slices.Equal(got, all) {
		t.Errorf("%s: on the disk stands %v, want %v", what, got, all)
	}
	if got := logged(t, d.Crash(lost)); !slices.Equal(got, certain) {
		t.Errorf("%s: certain is %v, want %v", what, got, certain)
	}
}

// tells asks what a book tells: its entries, what they make, and what is owed.
func tells(t *testing.T, what string, b *book.Book, entries []api.Entry, debts ...api.Entry) {
	t.Helper()
	if got := b.Entries(); !slices.Equal(got, entries) {
		t.Errorf("%s: Entries: %v, want %v", what, got, entries)
	}
	if got := b.Debts(); !slices.Equal(got, debts) {
		t.Errorf("%s: Debts: %v, want %v", what, got, debts)
	}
	if got, want := b.Spans(), trace.Spans(entries); !slices.Equal(got, want) {
		t.Errorf("%s: Spans: %v, want %v", what, got, want)
	}
}

func spans(t *testing.T, what string, b *book.Book, want ...api.Span) {
	t.Helper()
	if got := b.Spans(); !slices.Equal(got, want) {
		t.Errorf("%s: Spans: %v, want %v", what, got, want)
	}
}

// answers asks which error a call answered.
func answers(t *testing.T, what string, got, want api.Errno) {
	t.Helper()
	if got != want {
		t.Errorf("%s: %v, want %v", what, got, want)
	}
}

// took asks how many outcomes were taken since ops.
func took(t *testing.T, what string, d *sector.Disk, ops, n int) {
	t.Helper()
	if got := d.Ops() - ops; got != n {
		t.Errorf("%s: %d outcomes were taken, want %d", what, got, n)
	}
}

// contents gives a disk's sectors, one behind the other.
func contents(t *testing.T, d *sector.Disk) []byte {
	t.Helper()
	var all []byte
	for at := range d.Size() {
		b, e := d.Read(at)
		if e != api.OK {
			t.Fatalf("Read(%d): %v", at, e)
		}
		all = append(all, b...)
	}
	return all
}

// The chapter's examples.
func TestExamplesOfTheChapter(t *testing.T) {
	const s, r = 100, 200
	d := disk(t, 20)
	b := opened(t, d, 5)
	tells(t, "opened", b, list(boot(5)))
	answers(t, "Grant", b.Grant(6, s, home, 0), api.OK)
	answers(t, "Release", b.Release(9, home, 0), api.OK)
	spans(t, "released", b, had(s, 0, 6, 9))
	d.Outcomes([]byte{0, 1})
	answers(t, "Grant that fails", b.Grant(10, s, home, 1), api.ErrIO)
	before := list(boot(5), grant(6, s, 0), release(9, 0))
	tells(t, "failed", b, before, release(10, 1))
	answers(t, "Grant behind it", b.Grant(12, r, home, 1), api.OK)
	tells(t, "granted", b, list(before, release(10, 1), grant(12, r, 1)))
}

// P11.1: no disk, and times that may not be: nothing is read, written or taken.
func TestOpenRefused(t *testing.T) {
	d := written(t, 9, grant(1, 2, 3))
	d.Outcomes([]byte{1})
	before, ops := contents(t, d), d.Ops()
	for _, now := range []int64{-1, -2, math.MinInt64, api.MaxTime + 1, api.MaxTime + 2, math.MaxInt64} {
		for _, at := range []*sector.Disk{d, nil, {}} {
			if b, e := book.Open(at, now); b != nil || e != api.ErrArg {
				t.Errorf("Open at %d: %v, %v", now, b, e)
			}
		}
	}
	for _, now := range []int64{0, 1, api.MaxTime} {
		if b, e := book.Open(nil, now); b != nil || e != api.ErrArg {
			t.Errorf("Open of no disk at %d: %v, %v", now, b, e)
		}
	}
	took(t, "refused", d, ops, 0)
	if !bytes.Equal(contents(t, d), before) {
		t.Error("a refused Open changed the disk")
	}
}

// P11.1: an empty disk, of each size, at the limits of time: a boot, and one Sync.
func TestOpenOfAnEmptyDisk(t *testing.T) {
	for _, n := range []int{1, 2, api.MaxSectors} {
		for _, now := range []int64{0, 1, 77, api.MaxTime - 1, api.MaxTime} {
			d := disk(t, n)
			b := opened(t, d, now)
			tells(t, "empty", b, list(boot(now)))
			on(t, "empty", d, list(boot(now)), list(boot(now)))
			took(t, "empty", d, 0, 2)
			if d.Dirty() != 0 {
				t.Errorf("%d Writes are not certain", d.Dirty())
			}
		}
	}
}

// P11.1: a disk without room, and one that no call made.
func TestOpenOfADiskWithoutRoom(t *testing.T) {
	d := disk(t, 2)
	d.Write(1, bytes.Repeat([]byte{7}, api.SectorSize))
	ops := d.Ops()
	for _, at := range []*sector.Disk{d, {}} {
		if b, e := book.Open(at, 3); b != nil || e != api.ErrFull {
			t.Errorf("Open: %v, %v", b, e)
		}
	}
	took(t, "no room", d, ops, 0)
}

// P11.1: records that are no entries, between those that are: they are not told, and stay.
func TestOpenOfRecordsThatAreNoEntries(t *testing.T) {
	g, r := bytesOf(t, grant(4, 1, 0)), bytesOf(t, release(6, 0))
	late := []byte{api.EntryBoot, 0, 0, 1, 0, 0, 0, 0, 1} // a time of MaxTime + 1
	wrong := [][]byte{
		{0}, {4}, {255}, {api.EntryBoot}, late, slices.Concat([]byte{4}, g[1:]), g[1:],
		g[:len(g)-1], append(slices.Clone(g), 0), r[:len(r)-1], append(slices.Clone(r), 0),
		bytes.Repeat([]byte{api.EntryGrant}, api.MaxBody), make([]byte, len(g)),
	}
	records := [][]byte{wrong[0], bytesOf(t, boot(1)), wrong[1], g}
	records = append(append(records, wrong[2:]...), r, late, bytesOf(t, grant(8, 2, 1)), late)
	d := holding(t, 40, records...)
	b := opened(t, d, 9)
	want := list(boot(1), grant(4, 1, 0), release(6, 0), grant(8, 2, 1), release(9, 1), boot(9))
	tells(t, "no entries between", b, want)
	on(t, "no entries between", d, want, want)
	s, _ := strand.Open(d)
	if all := s.All(); len(all) != len(records)+2 || !slices.EqualFunc(all[:len(records)], records, bytes.Equal) {
		t.Errorf("the records are %v", all)
	}
	none := holding(t, 40, wrong...)
	tells(t, "no entries alone", opened(t, none, 0), list(boot(0)))
}

// P11.1: bytes that are no records: sectors that are torn, and noughts between.
func TestOpenOfTornSectors(t *testing.T) {
	d := disk(t, 9)
	f, _ := strand.Frame(bytesOf(t, grant(3, 1, 5)))
	whole := append(slices.Clone(f), make([]byte, api.SectorSize-len(f))...)
	torn := slices.Clone(whole)
	torn[len(f)-1] = 0
	d.Write(1, torn)
	d.Write(3, whole)
	d.Sync()
	b := opened(t, d, 4)
	want := list(grant(3, 1, 5), release(4, 5), boot(4))
	tells(t, "torn", b, want)
	on(t, "torn", d, want, want)
}

// severalOpen is a log with open spans, granted in another order than that of their blocks, of two addresses, among some that have an end.
func severalOpen() (l []api.Entry, closing func(now int64) []api.Entry) {
	other := grant(30, 5, 2)
	other.Addr = home + 1
	l = list(boot(1), grant(10, 1, 9), grant(20, 2, 2), other, grant(21, 3, 0), release(22, 2), grant(25, 1, 5), release(26, 77), grant(40, 2, 2), grant(41, 4, 0))
	return l, func(now int64) []api.Entry {
		there := release(max(now, 30), 2)
		there.Addr = other.Addr
		return list(release(max(now, 10), 9), there, release(max(now, 25), 5), release(max(now, 40), 2), release(max(now, 41), 0), boot(now))
	}
}

// P11.1: several open spans: each is closed, in the order of its grant, at the later one of now and From.
func TestOpenClosesWhatIsOpen(t *testing.T) {
	l, closing := severalOpen()
	for _, now := range []int64{0, 9, 10, 11, 25, 29, 30, 31, 40, 41, 42, 1000, api.MaxTime} {
		d := written(t, 40, l...)
		ops := d.Ops()
		b := opened(t, d, now)
		want := list(l, closing(now))
		tells(t, "closed", b, want)
		on(t, "closed", d, want, want)
		took(t, "closed", d, ops, 7)
		there := had(5, 2, 30, max(now, 30))
		there.Addr = home + 1
		spans(t, "closed", b, had(1, 9, 10, max(now, 10)), had(2, 2, 20, 22), there, had(3, 0, 21, 40),
			had(1, 5, 25, max(now, 25)), had(2, 2, 40, max(now, 40)), had(4, 0, 41, max(now, 41)))
	}
}

// P11.1: a grant at the greatest time is closed at it.
func TestOpenClosesAtTheGreatestTime(t *testing.T) {
	d := written(t, 9, grant(api.MaxTime, 1, 65535), grant(0, 1, 0))
	b := opened(t, d, 0)
	spans(t, "the greatest time", b, had(1, 65535, api.MaxTime, api.MaxTime), had(1, 0, 0, 0))
}

// P11.1: where all is closed a boot alone is written; nothing is closed twice.
func TestOpenAgain(t *testing.T) {
	l, closing := severalOpen()
	d := written(t, 40, l...)
	opened(t, d, 50)
	for i := range int64(4) {
		ops := d.Ops()
		b := opened(t, d, 60+i)
		want := list(l, closing(50))
		for j := range i + 1 {
			want = append(want, boot(60+j))
		}
		tells(t, "again", b, want)
		took(t, "again", d, ops, 2)
	}
}

// P11.1: each step failing: its error, no book, and nothing further is done.
func TestOpenWithEachStepFailing(t *testing.T) {
	l, closing := severalOpen()
	steps := closing(35)
	for k := range len(steps) + 1 {
		for _, outcome := range []byte{1, 2, 4, 254} {
			d := written(t, 40, l...)
			ops := d.Ops()
			d.Outcomes(append(make([]byte, k), outcome, 1, 1, 1))
			b, e := book.Open(d, 35)
			if b != nil || e != api.ErrIO {
				t.Fatalf("step %d fails: Open: %v, %v", k, b, e)
			}
			took(t, "a step fails", d, ops, k+1)
			certain, done := l, min(k, len(steps))
			if k < len(steps) && outcome%3 == 2 {
				done++
			}
			if k == len(steps) && outcome%3 == 2 {
				certain = list(l, steps)
			}
			on(t, "a step fails", d, list(l, steps[:done]), certain)
			opensBehind(t, d, list(l, steps[:done]))
			opensBehind(t, d.Crash(lost), certain)
		}
	}
}

// opensBehind opens a disk on which just these entries stand, behind an Open that failed.
func opensBehind(t *testing.T, d *sector.Disk, l []api.Entry) {
	t.Helper()
	d = d.Crash(nil)
	want := slices.Clone(l)
	for _, s := range trace.Spans(l) {
		if s.Open {
			want = append(want, api.Entry{Kind: api.EntryRelease, Time: max(70, s.From), Addr: s.Addr, Block: s.Block})
		}
	}
	tells(t, "behind an Open that failed", opened(t, d, 70), list(want, boot(70)))
}

// P11.1: the disk fills up on the way: ErrFull, and no Sync.
func TestOpenOfADiskThatFillsUp(t *testing.T) {
	l := list(grant(1, 1, 0), grant(1, 1, 1), grant(1, 1, 2), grant(1, 1, 3), grant(1, 1, 4))
	steps := list(release(8, 0), release(8, 1), release(8, 2), release(8, 3), release(8, 4), boot(8))
	// Two grants have room in a sector, and two releases.
	for free, done := range []int{0, 2, 4} {
		d := written(t, 3+free, l...)
		ops := d.Ops()
		b, e := book.Open(d, 8)
		if b != nil || e != api.ErrFull {
			t.Errorf("%d sectors are free: %v, %v", free, b, e)
		}
		took(t, "filled up", d, ops, done)
		on(t, "filled up", d, list(l, steps[:done]), l)
	}
	tells(t, "there is room", opened(t, written(t, 6, l...), 8), list(l, steps))
}

// P11.1: the first error is told, not the one that a further step would have had.
func TestOpenTellsTheFirstError(t *testing.T) {
	for _, outcome := range []byte{1, 2} {
		d := written(t, 3, grant(1, 1, 0), grant(1, 1, 1), grant(1, 1, 2))
		d.Outcomes([]byte{outcome})
		if b, e := book.Open(d, 8); b != nil || e != api.ErrIO {
			t.Errorf("Open: %v, %v", b, e)
		}
	}
}

// P11.2: Pay with nothing owed takes no outcome and changes nothing.
func TestPayOfNothing(t *testing.T) {
	d := disk(t, 1)
	b := opened(t, d, 3)
	answers(t, "Grant", b.Grant(4, 1, home, 0), api.OK)
	d.Outcomes([]byte{1})
	before := contents(t, d)
	for range 3 {
		answers(t, "Pay", b.Pay(), api.OK)
	}
	took(t, "Pay", d, 0, 4)
	tells(t, "Pay", b, list(boot(3), grant(4, 1, 0)))
	if !bytes.Equal(contents(t, d), before) {
		t.Error("Pay of nothing wrote")
	}
	answers(t, "the outcome still waits", b.Release(5, home, 0), api.ErrIO)
	answers(t, "a full disk", b.Release(5, home, 0), api.ErrFull)
	answers(t, "Pay of nothing on a full disk", b.Pay(), api.OK)
}

// owing makes a book that owes, as the grants of these debts' blocks failed or as a test says, and that a Sync stands behind.
func owing(t *testing.T, n int, debts ...api.Entry) (*sector.Disk, *book.Book) {
	t.Helper()
	d := disk(t, n)
	b := opened(t, d, 1)
	book.Owe(b, debts...)
	return d, b
}

// P11.2: one debt, of a Grant that failed at its append or its Sync, is paid once, with its own Time.
func TestPayOfOneDebt(t *testing.T) {
	for _, outcomes := range [][]byte{{1}, {2}, {0, 1}, {0, 2}} {
		d := disk(t, 9)
		b := opened(t, d, 1)
		d.Outcomes(outcomes)
		answers(t, "Grant", b.Grant(10, 4, home, 3), api.ErrIO)
		tells(t, "owed", b, list(boot(1)), release(10, 3))
		ops := d.Ops()
		answers(t, "Pay", b.Pay(), api.OK)
		took(t, "Pay", d, ops, 2)
		tells(t, "paid", b, list(boot(1), release(10, 3)))
		want := list(boot(1), grant(10, 4, 3), release(10, 3))
		if outcomes[0] == 1 {
			want = list(boot(1), release(10, 3))
		}
		on(t, "paid", d, want, want)
		answers(t, "Pay", b.Pay(), api.OK)
		took(t, "Pay again", d, ops, 2)
	}
}

// P11.2: several debts are paid in order, each with its own Time, with one Sync.
func TestPayOfSeveralDebts(t *testing.T) {
	debts := list(release(30, 2), release(20, 1), release(25, 2), release(20, 1), release(0, 65535), release(api.MaxTime, 0))
	for n := range len(debts) + 1 {
		d, b := owing(t, 20, debts[:n]...)
		tells(t, "owed", b, list(boot(1)), debts[:n]...)
		answers(t, "Pay", b.Pay(), api.OK)
		want := list(boot(1), debts[:n])
		tells(t, "paid", b, want)
		on(t, "paid", d, want, want)
		if n > 0 {
			took(t, "Pay", d, 2, n+1)
		}
	}
}

// P11.2: an append or the Sync of Pay fails: all debts stay, whatever was done of them, till all are paid.
func TestPayThatFails(t *testing.T) {
	debts := list(release(30, 2), release(20, 1), release(25, 7))
	for n := 1; n <= len(debts); n++ {
		for k := range n + 1 {
			for _, outcome := range []byte{1, 2, 253} {
				owed := debts[:n]
				d, b := owing(t, 20, owed...)
				d.Outcomes(append(make([]byte, k), outcome))
				answers(t, "Pay", b.Pay(), api.ErrIO)
				took(t, "Pay", d, 2, k+1)
				tells(t, "Pay failed", b, list(boot(1)), owed...)
				done, certain := min(k, n), list(boot(1))
				if outcome == 2 && k < n {
					done++
				}
				if outcome == 2 && k == n {
					certain = list(boot(1), owed)
				}
				on(t, "Pay failed", d, list(boot(1), owed[:done]), certain)
				answers(t, "Pay", b.Pay(), api.OK)
				tells(t, "paid", b, list(boot(1), owed))
				want := list(boot(1), owed[:done], owed)
				on(t, "paid", d, want, want)
			}
		}
	}
}

// P11.2: a full disk: all debts stay as they were, those too that there was room for, and no Sync is made.
func TestPayOnAFullDisk(t *testing.T) {
	debts := list(release(30, 2), release(20, 1), release(25, 7), release(26, 8), release(27, 9))
	// Behind the boot two releases have room, in each further sector two more.
	for _, c := range []struct{ sectors, filled, done int }{{1, 2, 0}, {1, 1, 1}, {1, 0, 2}, {2, 3, 1}, {2, 0, 4}} {
		d, b := owing(t, c.sectors)
		for range c.filled {
			answers(t, "Release", b.Release(2, home, 1), api.OK)
		}
		book.Owe(b, debts...)
		before, ops := b.Entries(), d.Ops()
		for range 3 {
			answers(t, "Pay", b.Pay(), api.ErrFull)
			took(t, "full", d, ops, c.done)
			tells(t, "full", b, before, debts...)
			on(t, "full", d, list(before, debts[:c.done]), before)
		}
	}
}

// P11.2: the one debt of a Grant that failed in the last sector can't be paid any more, and stays.
func TestADebtOnAFullDisk(t *testing.T) {
	for _, outcomes := range [][]byte{{1}, {2}, {0, 1}, {0, 2}} {
		d := disk(t, 1)
		b := opened(t, d, 1)
		d.Outcomes(outcomes)
		answers(t, "Grant", b.Grant(2, 4, home, 3), api.ErrIO)
		ops := d.Ops()
		for range 3 {
			answers(t, "Pay", b.Pay(), api.ErrFull)
			answers(t, "Grant", b.Grant(3, 4, home, 5), api.ErrFull)
			answers(t, "Release", b.Release(3, home, 5), api.ErrFull)
			tells(t, "a debt on a full disk", b, list(boot(1)), release(2, 3))
		}
		took(t, "a full disk", d, ops, 0)
	}
}

// kind is a Grant or a Release: its entry, and what is owed if it fails.
type kind struct {
	do    func(b *book.Book) api.Errno
	entry api.Entry
	debts []api.Entry
}

// kinds are a Grant and a Release of one block at one time.
func kinds() []kind {
	return []kind{
		{func(b *book.Book) api.Errno { return b.Grant(10, 4, home, 3) }, grant(10, 4, 3), list(release(10, 3))},
		{func(b *book.Book) api.Errno { return b.Release(10, home, 3) }, release(10, 3), nil},
	}
}

// P11.2: entries that may not be: nothing is written, nothing owed is paid, nothing more is owed.
func TestWhatMayNotBe(t *testing.T) {
	wrong := []struct {
		now   int64
		block int
	}{{-1, 0}, {math.MinInt64, 0}, {api.MaxTime + 1, 0}, {math.MaxInt64, 0}, {5, -1}, {5, 65536}, {5, math.MinInt}, {5, math.MaxInt}, {5, 1 << 32}, {-1, -1}, {1 << 62, 1 << 62}}
	for _, debts := range [][]api.Entry{nil, {release(1, 2)}, {release(1, 2), release(3, 4)}} {
		d, b := owing(t, 9, debts...)
		d.Outcomes([]byte{1})
		for _, w := range wrong {
			answers(t, "Grant", b.Grant(w.now, 1, home, w.block), api.ErrArg)
			answers(t, "Release", b.Release(w.now, home, w.block), api.ErrArg)
			tells(t, "refused", b, list(boot(1)), debts...)
		}
		took(t, "refused", d, 2, 0)
		on(t, "refused", d, list(boot(1)), list(boot(1)))
	}
}

// P11.2: what may not be is refused as such where the disk is full, too.
func TestWhatMayNotBeOnAFullDisk(t *testing.T) {
	d, b := owing(t, 1, release(1, 2))
	d.Outcomes([]byte{1})
	answers(t, "Pay", b.Pay(), api.ErrIO)
	answers(t, "Grant", b.Grant(2, 1, home, 0), api.ErrFull)
	answers(t, "Grant", b.Grant(-1, 1, home, 0), api.ErrArg)
	answers(t, "Release", b.Release(1, home, -1), api.ErrArg)
}

// P11.2: the limits of what may be: addresses and subscribers are any, and times may fall.
func TestWhatMayBe(t *testing.T) {
	d := disk(t, 40)
	b := opened(t, d, api.MaxTime)
	want := list(boot(api.MaxTime))
	for _, now := range []int64{0, api.MaxTime, 1} {
		for _, block := range []int{0, 65535} {
			for _, addr := range []uint32{0, math.MaxUint32} {
				sub := addr ^ 1
				answers(t, "Grant", b.Grant(now, sub, addr, block), api.OK)
				answers(t, "Release", b.Release(now, addr, block), api.OK)
				want = append(want, api.Entry{Kind: api.EntryGrant, Time: now, Sub: sub, Addr: addr, Block: block}, api.Entry{Kind: api.EntryRelease, Time: now, Addr: addr, Block: block})
				tells(t, "it may be", b, want)
			}
		}
	}
	on(t, "it may be", d, want, want)
}

// P11.2, P11.3: the book does not ask whether a block is granted: what the entries make of it is trace's.
func TestGrantOfWhatIsGranted(t *testing.T) {
	b := opened(t, disk(t, 9), 1)
	answers(t, "Release of what is not granted", b.Release(2, home, 0), api.OK)
	answers(t, "Grant", b.Grant(3, 1, home, 0), api.OK)
	answers(t, "Grant of what is granted", b.Grant(9, 2, home, 0), api.OK)
	answers(t, "Grant of the same block elsewhere", b.Grant(9, 3, home+1, 0), api.OK)
	elsewhere := has(3, 0, 9)
	elsewhere.Addr++
	spans(t, "granted twice", b, had(1, 0, 3, 8), has(2, 0, 9), elsewhere)
}

// P11.2: Grant and Release with each outcome at the append and at the Sync.
func TestGrantAndReleaseWithEachOutcome(t *testing.T) {
	for _, k := range kinds() {
		for c := range 256 {
			for _, outcomes := range [][]byte{{byte(c), 0}, {0, byte(c)}, {byte(c), 1}, {byte(c), 2}} {
				d := disk(t, 9)
				b := opened(t, d, 1)
				d.Outcomes(outcomes)
				appended, synced := outcomes[0]%3, outcomes[1]%3
				before := list(boot(1))
				all, certain, told, debts, want, ops := list(before, k.entry), before, before, k.debts, api.ErrIO, 2
				switch {
				case appended == 1:
					all, ops = before, 1
				case appended == 2:
					ops = 1
				case synced == 0:
					certain, told, debts, want = all, all, nil, api.OK
				case synced == 2:
					certain = all
				}
				answers(t, "with outcomes", k.do(b), want)
				took(t, "with outcomes", d, 2, ops)
				tells(t, "with outcomes", b, told, debts...)
				on(t, "with outcomes", d, all, certain)
			}
		}
	}
}

// P11.2: debts are paid first, with a Sync of their own; then what is asked for is done.
func TestDebtsThatArePaidFirst(t *testing.T) {
	debts := list(release(5, 2), release(3, 3))
	for n := 1; n <= len(debts); n++ {
		for _, k := range kinds() {
			d, b := owing(t, 9, debts[:n]...)
			answers(t, "behind debts", k.do(b), api.OK)
			took(t, "behind debts", d, 2, n+3)
			want := list(boot(1), debts[:n], k.entry)
			tells(t, "behind debts", b, want)
			on(t, "behind debts", d, want, want)
		}
	}
}

// P11.2: the debts are paid, and then what is asked for fails: of a Grant there is a debt of its own, of a Release none.
func TestWhatFailsBehindDebtsThatArePaid(t *testing.T) {
	for _, outcomes := range [][]byte{{0, 0, 1}, {0, 0, 2}, {0, 0, 0, 1}, {0, 0, 0, 2}} {
		for _, k := range kinds() {
			d, b := owing(t, 9, release(5, 3))
			d.Outcomes(outcomes)
			answers(t, "it fails", k.do(b), api.ErrIO)
			took(t, "it fails", d, 2, len(outcomes))
			tells(t, "it fails", b, list(boot(1), release(5, 3)), k.debts...)
		}
	}
}

// P11.2: the debts can't be paid: Pay's error is the answer, nothing of what is asked for is done, nothing more is owed.
func TestDebtsThatCanNotBePaid(t *testing.T) {
	debts := list(release(5, 2), release(3, 3))
	for n := 1; n <= len(debts); n++ {
		for k := range n + 1 {
			for _, outcome := range []byte{1, 2} {
				for _, asked := range kinds() {
					d, b := owing(t, 20, debts[:n]...)
					d.Outcomes(append(make([]byte, k), outcome))
					answers(t, "not paid", asked.do(b), api.ErrIO)
					took(t, "not paid", d, 2, k+1)
					tells(t, "not paid", b, list(boot(1)), debts[:n]...)
					if slices.Contains(logged(t, d), asked.entry) {
						t.Error("it was written, though debts were not paid")
					}
					answers(t, "paid", asked.do(b), api.OK)
					tells(t, "paid", b, list(boot(1), debts[:n], asked.entry))
				}
			}
		}
	}
}

// P11.2: a full disk: nothing is taken, and nothing is owed.
func TestGrantAndReleaseOnAFullDisk(t *testing.T) {
	for _, k := range kinds() {
		d := disk(t, 1)
		b := opened(t, d, 1)
		answers(t, "Release", b.Release(2, home, 3), api.OK)
		answers(t, "Release", b.Release(3, home, 3), api.OK)
		d.Outcomes([]byte{1})
		want := list(boot(1), release(2, 3), release(3, 3))
		for range 3 {
			answers(t, "full", k.do(b), api.ErrFull)
			tells(t, "full", b, want)
			answers(t, "Pay", b.Pay(), api.OK)
		}
		took(t, "full", d, 0, 6)
		on(t, "full", d, want, want)
	}
}

// P11.2: the debts are paid into the last room: what is asked for is refused, and no new debt is there.
func TestGrantThatIsRefusedBehindDebtsThatArePaid(t *testing.T) {
	for _, k := range kinds() {
		d, b := owing(t, 1, release(5, 2), release(3, 3))
		answers(t, "full", k.do(b), api.ErrFull)
		took(t, "full", d, 2, 3)
		tells(t, "full", b, list(boot(1), release(5, 2), release(3, 3)))
	}
}

// P11.2: of a Release nothing is owed; it is asked for again, and is told with the time at which it was OK.
func TestReleaseThatIsAskedForAgain(t *testing.T) {
	d := disk(t, 20)
	b := opened(t, d, 1)
	answers(t, "Grant", b.Grant(2, 4, home, 3), api.OK)
	held := list(boot(1), grant(2, 4, 3))
	d.Outcomes([]byte{1, 2, 0, 1, 0, 2})
	for i := range int64(4) {
		answers(t, "Release", b.Release(5+i, home, 3), api.ErrIO)
		tells(t, "asked for", b, held)
		spans(t, "asked for", b, has(4, 3, 2))
	}
	on(t, "asked for", d, list(held, release(6, 3), release(7, 3), release(8, 3)), list(held, release(6, 3), release(7, 3), release(8, 3)))
	answers(t, "Release", b.Release(9, home, 3), api.OK)
	tells(t, "released", b, list(held, release(9, 3)))
	spans(t, "released", b, had(4, 3, 2, 9))
	spans(t, "released, opened", opened(t, d, 30), had(4, 3, 2, 6))
}

// P11.3: what a call failed over is not told, though the disk has it; the next Open tells it.
func TestWhatFailedIsToldByTheNextOpen(t *testing.T) {
	d := disk(t, 20)
	b := opened(t, d, 1)
	d.Outcomes([]byte{0, 1})
	answers(t, "Grant", b.Grant(2, 4, home, 3), api.ErrIO)
	tells(t, "failed", b, list(boot(1)), release(2, 3))
	spans(t, "failed", b)
	tells(t, "opened, all is left", opened(t, d.Crash(nil), 9), list(boot(1), grant(2, 4, 3), release(9, 3), boot(9)))
	tells(t, "opened, all is lost", opened(t, d.Crash(lost), 9), list(boot(1), boot(9)))
	answers(t, "Pay", b.Pay(), api.OK)
	tells(t, "paid", b, list(boot(1), release(2, 3)))
	tells(t, "opened, paid", opened(t, d.Crash(lost), 9), list(boot(1), grant(2, 4, 3), release(2, 3), boot(9)))
}

// model does what the chapter says, one call behind the other, on a disk of its own.
type model struct {
	disk         *sector.Disk
	log          *strand.Strand
	known, debts []api.Entry
}

// all appends entries and syncs, up to the first error.
func (m *model) all(l []api.Entry) api.Errno {
	for _, e := range l {
		body, bad := entry.Encode(e)
		if bad != api.OK {
			return bad
		}
		if bad := m.log.Append(body); bad != api.OK {
			return bad
		}
	}
	if bad := m.log.Sync(); bad != api.OK {
		return bad
	}
	m.known = append(m.known, l...)
	return api.OK
}

func modelOpen(d *sector.Disk, now int64) (*model, api.Errno) {
	if now < 0 || now > api.MaxTime {
		return nil, api.ErrArg
	}
	m := &model{disk: d}
	m.log, _ = strand.Open(d)
	for _, body := range m.log.All() {
		if e, bad := entry.Decode(body); bad == api.OK {
			m.known = append(m.known, e)
		}
	}
	var l []api.Entry
	for _, s := range trace.Spans(m.known) {
		if s.Open && s.From > now {
			l = append(l, api.Entry{Kind: api.EntryRelease, Time: s.From, Addr: s.Addr, Block: s.Block})
		} else if s.Open {
			l = append(l, api.Entry{Kind: api.EntryRelease, Time: now, Addr: s.Addr, Block: s.Block})
		}
	}
	if bad := m.all(append(l, boot(now))); bad != api.OK {
		return nil, bad
	}
	return m, api.OK
}

func (m *model) pay() api.Errno {
	if len(m.debts) == 0 {
		return api.OK
	}
	bad := m.all(m.debts)
	if bad == api.OK {
		m.debts = nil
	}
	return bad
}

func (m *model) write(e api.Entry) api.Errno {
	if e.Time < 0 || e.Time > api.MaxTime || e.Block < 0 || e.Block > 65535 {
		return api.ErrArg
	}
	if bad := m.pay(); bad != api.OK {
		return bad
	}
	bad := m.all([]api.Entry{e})
	if bad == api.ErrIO && e.Kind == api.EntryGrant {
		m.debts = append(m.debts, api.Entry{Kind: api.EntryRelease, Time: e.Time, Addr: e.Addr, Block: e.Block})
	}
	return bad
}

// same asks whether the book and the model, and their disks, are alike.
func same(t *testing.T, seed int, d *sector.Disk, b *book.Book, m *model) {
	t.Helper()
	if b != nil {
		tells(t, "as the model", b, m.known, m.debts...)
	}
	if d.Ops() != m.disk.Ops() || d.Dirty() != m.disk.Dirty() || !bytes.Equal(contents(t, d), contents(t, m.disk)) {
		t.Errorf("the disks differ: %d and %d outcomes, %d and %d Writes", d.Ops(), m.disk.Ops(), d.Dirty(), m.disk.Dirty())
	}
	if t.Failed() {
		t.Fatalf("seed %d", seed)
	}
}

// anyOf draws a number that is mostly small, and now and then one that may not be, or just may.
func anyOf(r *rand.Rand, most int64) int64 {
	if r.Intn(12) == 0 {
		return []int64{-1, 0, most, most + 1, math.MinInt64, math.MaxInt64}[r.Intn(6)]
	}
	return int64(r.Intn(5))
}

// P11.1 to P11.3: rows of drawn calls, with drawn outcomes, on disks of which some fill up, with crashes and Opens that fail.
func TestAsTheModel(t *testing.T) {
	for seed := range 400 {
		r := rand.New(rand.NewSource(int64(seed)))
		n := 1 + r.Intn(40)
		d, twin := disk(t, n), disk(t, n)
		var b *book.Book
		var m *model
		often := 2 + r.Intn(9)
		for range 60 {
			for range r.Intn(3) {
				o := []byte{byte(r.Intn(256))}
				if r.Intn(often) > 0 {
					o[0] = 0
				}
				d.Outcomes(o)
				twin.Outcomes(o)
			}
			now, block := anyOf(r, api.MaxTime), int(anyOf(r, 65535))
			sub, addr := uint32(r.Intn(3)), uint32(r.Intn(2))
			var got, want api.Errno
			switch c := r.Intn(20); {
			case b == nil || c == 0:
				choice := make([]byte, r.Intn(8))
				r.Read(choice)
				if r.Intn(2) == 0 {
					d, twin = d.Crash(choice), twin.Crash(choice)
				}
				b, got = book.Open(d, now)
				m, want = modelOpen(twin, now)
				if m == nil {
					m = &model{disk: twin}
				}
			case c < 9:
				got, want = b.Grant(now, sub, addr, block), m.write(api.Entry{Kind: api.EntryGrant, Time: now, Sub: sub, Addr: addr, Block: block})
			case c < 15:
				got, want = b.Release(now, addr, block), m.write(api.Entry{Kind: api.EntryRelease, Time: now, Addr: addr, Block: block})
			default:
				got, want = b.Pay(), m.pay()
			}
			answers(t, "as the model", got, want)
			same(t, seed, d, b, m)
		}
	}
}

// hold is a grant that was OK: it is to be told from its Time on, to end at least.
type hold struct {
	sub       uint32
	block     int
	from, end int64
}

// life is what a gate does with a book: times rise, and no block is granted that is granted.
type life struct {
	disk  *sector.Disk
	book  *book.Book
	now   int64
	holds []hold
	has   map[int]int // which of holds has a block: no Release of it was OK yet
}

func (x *life) grant(sub uint32, block int) {
	if x.book.Grant(x.now, sub, home, block) == api.OK {
		x.has[block] = len(x.holds)
		x.holds = append(x.holds, hold{sub, block, x.now, math.MaxInt64})
	}
}

func (x *life) release(block int) {
	h := &x.holds[x.has[block]]
	h.end = min(h.end, x.now) // the first time it was asked for: its bytes may be there
	if x.book.Release(x.now, home, block) == api.OK {
		delete(x.has, block)
	}
}

// step grants a block that is free, and releases one that is not.
func (x *life) step(sub uint32, block int) {
	if _, held := x.has[block]; held {
		x.release(block)
		return
	}
	x.grant(sub, block)
}

// ended gives the grants as they are to be told behind a crash now.
func (x *life) ended() []hold {
	l := slices.Clone(x.holds)
	for i := range l {
		l[i].end = min(l[i].end, x.now)
	}
	return l
}

// crashed is the life that goes on behind a crash.
func (x *life) crashed(d *sector.Disk) *life {
	return &life{disk: d, now: x.now, holds: x.ended(), has: map[int]int{}}
}

// witnessed asks whether each grant is told at all its times, alone, and whether no two spans meet.
func witnessed(t *testing.T, what any, b *book.Book, holds []hold) {
	t.Helper()
	l := b.Spans()
	if !trace.Apart(l) {
		t.Fatalf("%v: two spans meet: %v", what, l)
	}
	for _, h := range holds {
		for at := h.from; at <= h.end; at++ {
			if got := trace.Who(l, home, h.block, at); !slices.Equal(got, []uint32{h.sub}) {
				t.Fatalf("%v: %v at %d: %v of %v", what, h, at, got, l)
			}
		}
	}
	for _, s := range l {
		if s.Open {
			t.Fatalf("%v: a span is open behind Open: %v", what, l)
		}
	}
}

// P11.4: crashes behind each call of a row, with every pattern of the first outcomes, whatever is left of the Writes: Open at once and later.
func TestCrashesAtEveryPoint(t *testing.T) {
	const patterns = 3 * 3 * 3 * 3 * 3 * 3
	row := []struct {
		sub   uint32
		block int
	}{{1, 0}, {2, 1}, {1, 0}, {3, 0}, {2, 1}, {1, 1}}
	// A Write is left as a whole, not at all, or torn: ahead of the frame, within it, ahead of its last byte, at its end.
	choices := []byte{0, 1, 2, 2 + 3*20, 2 + 3*25, 2 + 3*26, 2 + 3*47, 2 + 3*48, 2 + 3*64}
	for pattern := range patterns {
		x := &life{disk: disk(t, 20), now: 1, has: map[int]int{}}
		x.book = opened(t, x.disk, x.now)
		for p := pattern; p > 0; p /= 3 {
			x.disk.Outcomes([]byte{byte(p % 3)})
		}
		for i, c := range row {
			x.now++
			x.step(c.sub, c.block)
			for j := range len(choices) * len(choices) {
				choice := []byte{choices[j%len(choices)], choices[j/len(choices)], choices[(i+j)%len(choices)], choices[(pattern+j)%len(choices)]}
				if d := x.disk.Dirty(); d == 0 && j > 0 || d == 1 && j >= len(choices) {
					break
				}
				for _, later := range []int64{0, 1, 100} {
					left := x.disk.Crash(choice)
					witnessed(t, []any{pattern, i, choice, later}, opened(t, left, x.now+later), x.ended())
				}
			}
		}
	}
}

// P11.4: one grant, one of its calls failing or none, and every choice for its Write.
func TestCrashWithEachChoice(t *testing.T) {
	for _, outcomes := range [][]byte{{0, 0}, {0, 1}, {0, 2}, {1}, {2}} {
		d := disk(t, 9)
		b := opened(t, d, 1)
		d.Outcomes(outcomes)
		e := b.Grant(5, 3, home, 2)
		for c := range 256 {
			o := opened(t, d.Crash([]byte{byte(c)}), 8)
			done, certain := outcomes[0] != 1, len(outcomes) == 2 && outcomes[1] != 1
			left := c%3 == 0 || c%3 == 2 && c/3 >= 16+26 // the boot's frame and the grant's
			if certain || done && left {
				spans(t, "left", o, had(3, 2, 5, 8))
			} else {
				spans(t, "lost", o)
			}
			if e == api.OK && !certain {
				t.Errorf("outcomes %v: OK, and not certain", outcomes)
			}
		}
	}
}

// reopened opens the disk of a life behind a crash; Opens that fail, and crashes amid them, come ahead of it now and then.
func (x *life) reopened(t *testing.T, r *rand.Rand) {
	t.Helper()
	for range 20 {
		x.disk.Outcomes([]byte{byte(r.Intn(3) * r.Intn(2)), byte(r.Intn(3) * r.Intn(2))})
		b, e := book.Open(x.disk, x.now)
		if e == api.OK {
			x.book = b
			return
		}
		if b != nil || e != api.ErrIO {
			t.Fatalf("Open: %v, %v", b, e)
		}
		x.now += int64(r.Intn(3))
		if r.Intn(2) == 0 {
			x.disk = x.disk.Crash(drawn(r))
		}
	}
	x.disk = x.disk.Crash(drawn(r))
	x.book = opened(t, x.disk, x.now)
}

// drawn gives a choice for a crash.
func drawn(r *rand.Rand) []byte {
	choice := make([]byte, r.Intn(12))
	r.Read(choice)
	return choice
}

// P11.4: several lives of one disk, drawn: times that stand still and go on, releases that fail and are asked for again, debts, Opens that fail.
func TestDrawnLives(t *testing.T) {
	for seed := range 500 {
		r := rand.New(rand.NewSource(int64(seed)))
		x := &life{disk: disk(t, 400), now: int64(r.Intn(3)), has: map[int]int{}}
		for range 4 {
			x.reopened(t, r)
			witnessed(t, seed, x.book, x.holds)
			// A grant comes later than what Open wrote, than its block's last release and than its last grant.
			var last [4]int64
			for k := range last {
				last[k] = x.now
			}
			for range r.Intn(30) {
				x.now += int64(r.Intn(2))
				x.disk.Outcomes([]byte{byte(r.Intn(3) * r.Intn(2)), byte(r.Intn(3) * r.Intn(2))})
				k := r.Intn(len(last))
				if _, held := x.has[k]; !held && x.now <= last[k] {
					x.book.Pay()
					continue
				}
				x.step(uint32(1+r.Intn(3)), k)
				last[k] = x.now
				if r.Intn(4) == 0 {
					witnessed(t, seed, opened(t, x.disk.Crash(drawn(r)), x.now+int64(r.Intn(3))), x.ended())
				}
			}
			x = x.crashed(x.disk.Crash(drawn(r)))
			x.now += int64(r.Intn(2))
		}
	}
}

// P11.1 to P11.3: the greatest disk is filled with grants, and opened when all but a little of it is used up.
func TestTheGreatestDisk(t *testing.T) {
	d := disk(t, api.MaxSectors)
	b := opened(t, d, 0)
	want := list(boot(0))
	// The boot and one grant have room in the first sector, two grants in each other one.
	for i := range 2*api.MaxSectors - 1 {
		e := grant(int64(i), uint32(i), i)
		answers(t, "Grant", b.Grant(e.Time, e.Sub, e.Addr, e.Block), api.OK)
		want = append(want, e)
	}
	answers(t, "Grant", b.Grant(9000, 1, home, 9000), api.ErrFull)
	tells(t, "full", b, want)
	if o, e := book.Open(d, 0); o != nil || e != api.ErrFull {
		t.Errorf("Open of a full disk: %v, %v", o, e)
	}
	few := written(t, api.MaxSectors, want[1:api.MaxSectors]...)
	o := opened(t, few, 5000)
	if l := o.Spans(); len(l) != api.MaxSectors-1 || l[0] != had(0, 0, 0, 5000) || l[len(l)-1] != had(api.MaxSectors-2, api.MaxSectors-2, api.MaxSectors-2, 5000) {
		t.Errorf("%d spans", len(l))
	}
}

// R4: what is answered is new memory, spare room too, and later calls do not change it.
func TestMemory(t *testing.T) {
	d, b := owing(t, 20)
	answers(t, "Grant", b.Grant(2, 4, home, 0), api.OK)
	answers(t, "Release", b.Release(3, home, 0), api.OK)
	d.Outcomes([]byte{1})
	answers(t, "Grant", b.Grant(4, 5, home, 1), api.ErrIO)
	entries, debts, l := b.Entries(), b.Debts(), b.Spans()
	told, owed := list(boot(1), grant(2, 4, 0), release(3, 0)), list(release(4, 1))
	for range 2 {
		spoil(b.Entries(), api.Entry{Kind: 99})
		spoil(b.Debts(), api.Entry{Kind: 99})
		spoil(b.Spans(), api.Span{Sub: 99})
		tells(t, "spoiled answers", b, told, owed...)
	}
	answers(t, "Grant", b.Grant(6, 5, home, 2), api.OK)
	more := list(told, owed, grant(6, 5, 2))
	tells(t, "paid", b, more)
	on(t, "paid", d, more, more)
	if !slices.Equal(entries, told) || !slices.Equal(debts, owed) || !slices.Equal(l, []api.Span{had(4, 0, 2, 3)}) {
		t.Errorf("a later call changed an answer: %v, %v, %v", entries, debts, l)
	}
	spoil(entries, api.Entry{Kind: 98})
	spoil(debts, api.Entry{Kind: 98})
	spoil(l, api.Span{Sub: 98})
	tells(t, "spoiled answers of old", b, more)
}

// spoil fills a list and its spare room.
func spoil[T any](l []T, x T) {
	l = l[:cap(l)]
	for i := range l {
		l[i] = x
	}
}

// R4, R5: the disk that is handed in is the one that is worked on; books of two disks do not know of each other.
func TestBooksOfTwoDisks(t *testing.T) {
	d, other := disk(t, 9), disk(t, 9)
	b, c := opened(t, d, 1), opened(t, other, 2)
	d.Outcomes([]byte{1})
	answers(t, "Grant", b.Grant(3, 1, home, 0), api.ErrIO)
	answers(t, "Grant", c.Grant(3, 1, home, 0), api.OK)
	tells(t, "the one", b, list(boot(1)), release(3, 0))
	tells(t, "the other", c, list(boot(2), grant(3, 1, 0)))
	on(t, "the one", d, list(boot(1)), list(boot(1)))
	on(t, "the other", other, list(boot(2), grant(3, 1, 0)), list(boot(2), grant(3, 1, 0)))
}

// R7: no book, and one that no call made, at arguments that may be and that may not.
func TestBooksThatNoCallMade(t *testing.T) {
	for _, b := range []*book.Book{nil, {}, new(book.Book)} {
		for _, now := range []int64{-1, 0, 5, api.MaxTime + 1} {
			answers(t, "Grant", b.Grant(now, 1, home, 0), api.ErrState)
			answers(t, "Release", b.Release(now, home, -1), api.ErrState)
			answers(t, "Pay", b.Pay(), api.ErrState)
		}
		tells(t, "no book", b, nil)
	}
}

package trace_test

import (
	"math"
	"math/big"
	"math/rand"
	"slices"
	"testing"

	"bailiwick/api"
	"bailiwick/trace"
)

const (
	least    = math.MinInt64
	greatest = math.MaxInt64
	home     = uint32(7) // the address where a test names none
)

func grant(time int64, sub uint32, block int) api.Entry {
	return api.Entry{Kind: api.EntryGrant, Time: time, Sub: sub, Addr: home, Block: block}
}

func release(time int64, block int) api.Entry {
	return api.Entry{Kind: api.EntryRelease, Time: time, Addr: home, Block: block}
}

// at gives an entry at another address.
func at(addr uint32, e api.Entry) api.Entry {
	e.Addr = addr
	return e
}

// had gives a span of block 0 with an end.
func had(sub uint32, from, to int64) api.Span {
	return api.Span{Sub: sub, Addr: home, From: from, To: to}
}

// has gives a span of block 0 without an end.
func has(sub uint32, from int64) api.Span {
	return api.Span{Sub: sub, Addr: home, From: from, Open: true}
}

// of gives a span of another block and address.
func of(addr uint32, block int, s api.Span) api.Span {
	s.Addr, s.Block = addr, block
	return s
}

// spans asks what spans entries make.
func spans(t *testing.T, what string, l []api.Entry, want ...api.Span) {
	t.Helper()
	if got := trace.Spans(l); !slices.Equal(got, want) {
		t.Errorf("%s: Spans(%v): %v, want %v", what, l, got, want)
	}
}

// who asks the list and the index.
func who(t *testing.T, what string, l []api.Span, addr uint32, block int, time int64, want ...uint32) {
	t.Helper()
	if got := trace.Who(l, addr, block, time); !slices.Equal(got, want) {
		t.Errorf("%s: Who(%v, %d, %d, %d): %v, want %v", what, l, addr, block, time, got, want)
	}
	if got := trace.New(l).Who(addr, block, time); !slices.Equal(got, want) {
		t.Errorf("%s: New(%v).Who(%d, %d, %d): %v, want %v", what, l, addr, block, time, got, want)
	}
}

// apart asks whether no two meet, in this order, in the opposite one, and whatever stands beside them.
func apart(t *testing.T, what string, want bool, l ...api.Span) {
	t.Helper()
	back := slices.Clone(l)
	slices.Reverse(back)
	beside := slices.Concat([]api.Span{of(home, 99, has(1, least))}, l, []api.Span{of(99, 0, has(1, least)), of(home, 1<<32, had(2, 3, 3))})
	for _, list := range [][]api.Span{l, back, beside} {
		if trace.Apart(list) != want {
			t.Errorf("%s: Apart(%v): not %v", what, list, want)
		}
	}
}

// above says whether a is above b, as numbers without a bound.
func above(a, b *big.Int) bool { return a.Cmp(b) > 0 }

// modelSpans reckons a grant's span from what comes behind it, by the chapter's words.
func modelSpans(l []api.Entry) []api.Span {
	var out []api.Span
	for i, e := range l {
		if e.Kind != api.EntryGrant {
			continue
		}
		s := api.Span{Sub: e.Sub, Addr: e.Addr, Block: e.Block, From: e.Time, Open: true}
		for _, next := range l[i+1:] {
			if next.Addr != e.Addr || next.Block != e.Block || next.Kind != api.EntryGrant && next.Kind != api.EntryRelease {
				continue
			}
			to := big.NewInt(next.Time)
			if next.Kind == api.EntryGrant {
				to.Sub(to, big.NewInt(1))
			}
			if from := big.NewInt(e.Time); above(from, to) {
				to = from
			}
			s.To, s.Open = to.Int64(), false
			break
		}
		out = append(out, s)
	}
	return out
}

// modelWho asks every subscriber there is, by the chapter's words.
func modelWho(l []api.Span, addr uint32, block int, t int64) []uint32 {
	set := map[uint32]bool{}
	for _, s := range l {
		if s.Addr == addr && s.Block == block && s.From <= t && (s.Open || t <= s.To) {
			set[s.Sub] = true
		}
	}
	var out []uint32
	for sub := range set {
		out = append(out, sub)
	}
	slices.Sort(out)
	return out
}

// modelApart holds each span against each other.
func modelApart(l []api.Span) bool {
	for i, a := range l {
		for _, b := range l[:i] {
			if a.Addr != b.Addr || a.Block != b.Block {
				continue
			}
			from := max(a.From, b.From)
			if (a.Open || from <= a.To) && (b.Open || from <= b.To) {
				return false
			}
		}
	}
	return true
}

// drawnEntry gives any entry, of few places and times.
func drawnEntry(r *rand.Rand) api.Entry {
	return api.Entry{Kind: r.Intn(6) - 1, Time: int64(r.Intn(24) - 4), Sub: uint32(r.Intn(4)), Addr: uint32(r.Intn(2)), Block: r.Intn(3) - 1}
}

// drawnSpan gives any span, of few places and times; many have their end ahead of their beginning, open ones a To.
func drawnSpan(r *rand.Rand) api.Span {
	return api.Span{Sub: uint32(r.Intn(5)), Addr: uint32(r.Intn(2)), Block: r.Intn(2), From: int64(r.Intn(30) - 5), To: int64(r.Intn(30) - 5), Open: r.Intn(6) == 0}
}

// many gives a list of up to n that are drawn.
func many[T any](r *rand.Rand, n int, draw func(*rand.Rand) T) []T {
	l := make([]T, r.Intn(n+1))
	for i := range l {
		l[i] = draw(r)
	}
	return l
}

// roomy gives a list that has spare room behind it, filled with a mark, and a look at all of it.
func roomy[T any](l []T, mark T) (list, whole []T) {
	whole = append(slices.Clone(l), mark, mark, mark, mark)
	return whole[:len(l)], whole
}

// spoil writes over all of a list, its spare room too.
func spoil[T any](l []T, mark T) {
	for i := range l[:cap(l)] {
		l[:cap(l)][i] = mark
	}
}

// The chapter's examples.
func TestExamplesOfTheChapter(t *testing.T) {
	const s, r = 11, 12
	l := []api.Entry{grant(5, s, 0), release(9, 0), grant(20, r, 0)}
	want := []api.Span{had(s, 5, 9), has(r, 20)}
	spans(t, "the example", l, want...)
	who(t, "the example", want, home, 0, 4)
	who(t, "the example", want, home, 0, 5, s)
	who(t, "the example", want, home, 0, 9, s)
	who(t, "the example", want, home, 0, 10)
	who(t, "the example", want, home, 0, 99, r)
}

// P10.1: a grant over an open span closes it one ahead of itself, but not ahead of its From.
func TestGrantOverAnOpenSpan(t *testing.T) {
	for _, sub := range []uint32{1, 2} {
		spans(t, "later", []api.Entry{grant(5, 1, 0), grant(9, sub, 0)}, had(1, 5, 8), has(sub, 9))
		spans(t, "one later", []api.Entry{grant(5, 1, 0), grant(6, sub, 0)}, had(1, 5, 5), has(sub, 6))
		spans(t, "two later", []api.Entry{grant(5, 1, 0), grant(7, sub, 0)}, had(1, 5, 6), has(sub, 7))
		spans(t, "at the same time", []api.Entry{grant(5, 1, 0), grant(5, sub, 0)}, had(1, 5, 5), has(sub, 5))
		spans(t, "one earlier", []api.Entry{grant(5, 1, 0), grant(4, sub, 0)}, had(1, 5, 5), has(sub, 4))
		spans(t, "far earlier", []api.Entry{grant(5, 1, 0), grant(-9, sub, 0)}, had(1, 5, 5), has(sub, -9))
	}
	spans(t, "three", []api.Entry{grant(5, 1, 0), grant(9, 2, 0), grant(9, 3, 0), grant(12, 1, 0)}, had(1, 5, 8), had(2, 9, 9), had(3, 9, 11), has(1, 12))
	spans(t, "behind a release", []api.Entry{grant(5, 1, 0), release(7, 0), grant(20, 2, 0), grant(30, 3, 0)}, had(1, 5, 7), had(2, 20, 29), has(3, 30))
	spans(t, "at 0", []api.Entry{grant(-5, 1, 0), grant(0, 2, 0), grant(1, 3, 0)}, had(1, -5, -1), had(2, 0, 0), has(3, 1))
}

// P10.1: the least and the greatest number of Time, below which and above which there is none.
func TestTimesAtTheEnds(t *testing.T) {
	spans(t, "twice at the least", []api.Entry{grant(least, 1, 0), grant(least, 2, 0)}, had(1, least, least), has(2, least))
	spans(t, "later, then the least", []api.Entry{grant(5, 1, 0), grant(least, 2, 0)}, had(1, 5, 5), has(2, least))
	spans(t, "the greatest, then the least", []api.Entry{grant(greatest, 1, 0), grant(least, 2, 0)}, had(1, greatest, greatest), has(2, least))
	spans(t, "the least, then one above", []api.Entry{grant(least, 1, 0), grant(least+1, 2, 0)}, had(1, least, least), has(2, least+1))
	spans(t, "the least, then two above", []api.Entry{grant(least, 1, 0), grant(least+2, 2, 0)}, had(1, least, least+1), has(2, least+2))
	spans(t, "one above the least, then that", []api.Entry{grant(least+1, 1, 0), grant(least, 2, 0)}, had(1, least+1, least+1), has(2, least))
	spans(t, "the least, then the greatest", []api.Entry{grant(least, 1, 0), grant(greatest, 2, 0)}, had(1, least, greatest-1), has(2, greatest))
	spans(t, "twice at the greatest", []api.Entry{grant(greatest, 1, 0), grant(greatest, 2, 0)}, had(1, greatest, greatest), has(2, greatest))
	spans(t, "released at the least", []api.Entry{grant(least, 1, 0), release(least, 0)}, had(1, least, least))
	spans(t, "released at the greatest", []api.Entry{grant(greatest, 1, 0), release(greatest, 0)}, had(1, greatest, greatest))
	spans(t, "from end to end", []api.Entry{grant(least, 1, 0), release(greatest, 0)}, had(1, least, greatest))
	spans(t, "from the greatest back", []api.Entry{grant(greatest, 1, 0), release(least, 0)}, had(1, greatest, greatest))
	spans(t, "from 0 back", []api.Entry{grant(0, 1, 0), release(least, 0)}, had(1, 0, 0))
}

// P10.1: a release closes what is open, at its own time, but not ahead of its From; and nothing else.
func TestRelease(t *testing.T) {
	spans(t, "later", []api.Entry{grant(5, 1, 0), release(9, 0)}, had(1, 5, 9))
	spans(t, "at the same time", []api.Entry{grant(5, 1, 0), release(5, 0)}, had(1, 5, 5))
	spans(t, "one later", []api.Entry{grant(5, 1, 0), release(6, 0)}, had(1, 5, 6))
	spans(t, "one earlier", []api.Entry{grant(5, 1, 0), release(4, 0)}, had(1, 5, 5))
	spans(t, "far earlier", []api.Entry{grant(5, 1, 0), release(-7, 0)}, had(1, 5, 5))
	spans(t, "at 0, below it", []api.Entry{grant(-5, 1, 0), release(0, 0), grant(-5, 2, 0), release(-1, 0)}, had(1, -5, 0), had(2, -5, -1))
	spans(t, "twice", []api.Entry{grant(5, 1, 0), release(9, 0), release(12, 0)}, had(1, 5, 9))
	spans(t, "twice, and a grant behind", []api.Entry{grant(5, 1, 0), release(9, 0), release(12, 0), grant(7, 2, 0)}, had(1, 5, 9), has(2, 7))
	spans(t, "none is open", []api.Entry{release(9, 0)})
	spans(t, "ahead of all grants", []api.Entry{release(9, 0), grant(5, 1, 0)}, has(1, 5))
	spans(t, "of a subscriber, whoever it is", []api.Entry{grant(5, 1, 0), {Kind: api.EntryRelease, Time: 9, Sub: 2, Addr: home}}, had(1, 5, 9))
	spans(t, "of the last grant alone", []api.Entry{grant(5, 1, 0), grant(8, 2, 0), release(9, 0), release(9, 0)}, had(1, 5, 7), had(2, 8, 9))
}

// P10.1: boots, and kinds that are none, count for nothing, whatever else they have.
func TestOtherKinds(t *testing.T) {
	for _, kind := range []int{api.EntryBoot, 0, -1, -2, 4, 5, 258, 259, 1<<32 + 2, 1<<32 + 3, math.MinInt, math.MaxInt} {
		other := api.Entry{Kind: kind, Time: 7, Sub: 3, Addr: home}
		spans(t, "alone", []api.Entry{other})
		spans(t, "between", []api.Entry{other, grant(5, 1, 0), other, release(9, 0), other, grant(20, 2, 0), other}, had(1, 5, 9), has(2, 20))
		spans(t, "with nothing", []api.Entry{grant(5, 1, 0), {Kind: kind}, {Kind: kind, Time: greatest}, {Kind: kind, Time: least}}, has(1, 5))
	}
}

// P10.1: blocks of one number at several addresses, several blocks of one address.
func TestPlacesAreToldApart(t *testing.T) {
	two := []api.Entry{at(1, grant(5, 1, 3)), at(2, grant(6, 2, 3)), at(1, release(9, 3))}
	spans(t, "two addresses", two, of(1, 3, had(1, 5, 9)), of(2, 3, has(2, 6)))
	spans(t, "two blocks", []api.Entry{grant(5, 1, 3), grant(6, 2, 4), release(9, 4)}, of(home, 3, has(1, 5)), of(home, 4, had(2, 6, 9)))
	spans(t, "an address and a block changed over", []api.Entry{at(3, grant(5, 1, 4)), at(4, grant(6, 2, 3)), at(4, release(9, 3))}, of(3, 4, has(1, 5)), of(4, 3, had(2, 6, 9)))
	blocks := []int{0, 1, -1, 65535, 65536, 1 << 32, math.MinInt, math.MaxInt}
	addrs := []uint32{0, 1, 256, 1 << 31, math.MaxUint32}
	var l []api.Entry
	var want []api.Span
	for i, block := range blocks {
		for j, addr := range addrs {
			sub, from := uint32(10*i+j), int64(100*i+j)
			l = append(l, at(addr, grant(from, sub, block)))
			want = append(want, of(addr, block, has(sub, from)))
		}
	}
	spans(t, "all open", l, want...)
	for i := len(want) - 1; i >= 0; i -= 3 {
		l = append(l, at(want[i].Addr, release(5000+int64(i), want[i].Block)))
		want[i].Open, want[i].To = false, 5000+int64(i)
	}
	spans(t, "some released", l, want...)
	for _, s := range want {
		who(t, "each place", want, s.Addr, s.Block, s.From, s.Sub)
	}
}

// P10.1: spans stand in the order of their grants, whatever their times and their releases; open ones have To 0.
func TestOrderOfSpans(t *testing.T) {
	l := []api.Entry{grant(30, 3, 2), grant(5, 1, 1), grant(20, 2, 0), release(40, 0), release(50, 2), grant(1, 1, 0)}
	spans(t, "order", l, of(home, 2, had(3, 30, 50)), of(home, 1, has(1, 5)), had(2, 20, 40), has(1, 1))
	for _, s := range trace.Spans([]api.Entry{grant(5, 1, 0), grant(9, 2, 1), grant(greatest, 3, 2), grant(least, 4, 3)}) {
		if !s.Open || s.To != 0 {
			t.Errorf("an open span with an end: %v", s)
		}
	}
	spans(t, "none of nil", nil)
	spans(t, "none of none", []api.Entry{})
}

// P10.1: any entries, against the chapter's words.
func TestSpansAgainstAModel(t *testing.T) {
	r := rand.New(rand.NewSource(1))
	for range 20000 {
		l := many(r, 24, drawnEntry)
		if r.Intn(3) == 0 {
			for i := range l {
				l[i].Time = []int64{least, least + 1, -1, 0, 1, greatest - 1, greatest}[r.Intn(7)]
			}
		}
		spans(t, "any", l, modelSpans(l)...)
	}
}

// P10.2: the times around both ends of a span.
func TestTimesAroundASpan(t *testing.T) {
	l := []api.Span{had(3, 5, 9)}
	for _, time := range []int64{5, 6, 8, 9} {
		who(t, "in it", l, home, 0, time, 3)
	}
	for _, time := range []int64{least, -5, 0, 3, 4, 10, 11, greatest} {
		who(t, "beside it", l, home, 0, time)
	}
	who(t, "one time alone", []api.Span{had(3, 5, 5)}, home, 0, 4)
	who(t, "one time alone", []api.Span{had(3, 5, 5)}, home, 0, 5, 3)
	who(t, "one time alone", []api.Span{had(3, 5, 5)}, home, 0, 6)
	who(t, "subscriber 0", []api.Span{had(0, -3, 0)}, home, 0, 0, 0)
}

// P10.2: an open span has no end, whatever its To.
func TestTimesAroundAnOpenSpan(t *testing.T) {
	for _, to := range []int64{0, 5, 4, 9, least, greatest} {
		l := []api.Span{{Sub: 3, Addr: home, From: 5, To: to, Open: true}}
		for _, time := range []int64{least, 0, 3, 4} {
			who(t, "ahead of it", l, home, 0, time)
		}
		for _, time := range []int64{5, 6, 10, api.MaxTime, greatest - 1, greatest} {
			who(t, "in it", l, home, 0, time, 3)
		}
	}
	who(t, "open from the least", []api.Span{has(3, least)}, home, 0, least, 3)
	who(t, "open from the greatest", []api.Span{has(3, greatest)}, home, 0, greatest, 3)
	who(t, "open from the greatest", []api.Span{has(3, greatest)}, home, 0, greatest-1)
	who(t, "shut at the greatest", []api.Span{had(3, 5, greatest)}, home, 0, greatest, 3)
}

// P10.2: a span whose To is below its From tells nobody at any time, and hides nobody.
func TestToBelowFrom(t *testing.T) {
	back := []api.Span{had(3, 5, 4), had(4, 9, 2), had(5, greatest, least), had(6, 3, 0)}
	beside := slices.Concat(back, []api.Span{had(8, 0, 12)})
	for _, time := range []int64{least, 0, 1, 2, 3, 4, 5, 6, 7, 8, 9, 10, greatest} {
		who(t, "alone", back, home, 0, time)
		if 0 <= time && time <= 12 {
			who(t, "beside one that has a time", beside, home, 0, time, 8)
		}
	}
}

// P10.2: one subscriber in several spans is told once; several are told rising, as numbers without a sign.
func TestEachOnceAndRising(t *testing.T) {
	one := []api.Span{had(3, 5, 9), has(3, 5), had(3, 1, 20), had(3, 9, 9), had(3, 9, 9), had(3, 30, 40)}
	who(t, "one", one, home, 0, 9, 3)
	who(t, "one", one, home, 0, 21, 3)
	who(t, "one", one[2:5], home, 0, 21)
	who(t, "one", one, home, 0, 1, 3)
	who(t, "one", one, home, 0, 0)
	several := []api.Span{had(9, 1, 9), had(2, 2, 9), had(math.MaxUint32, 3, 9), had(0, 4, 9), had(1<<31, 5, 9), has(2, 6), had(10, 7, 9), had(9, 8, 9)}
	who(t, "several", several, home, 0, 9, 0, 2, 9, 10, 1<<31, math.MaxUint32)
	who(t, "several", several, home, 0, 5, 0, 2, 9, 1<<31, math.MaxUint32)
	who(t, "several", several, home, 0, 1, 9)
	who(t, "several", several, home, 0, 10, 2)
	who(t, "a long one over short ones", []api.Span{had(1, 0, 100), had(2, 1, 2), had(3, 3, 4), had(4, 5, 6), had(5, 90, 91)}, home, 0, 90, 1, 5)
	who(t, "a long one over short ones", []api.Span{had(1, 0, 100), had(2, 1, 2), had(3, 3, 4), had(4, 5, 6), had(5, 90, 91)}, home, 0, 50, 1)
	who(t, "with a gap", []api.Span{had(1, 0, 4), had(1, 6, 9), had(2, 0, 9)}, home, 0, 5, 2)
}

// P10.2: spans of other places tell nobody of this one.
func TestWhoOfOtherPlaces(t *testing.T) {
	l := []api.Span{of(1, 0, has(3, 5)), of(2, 0, has(4, 5)), of(1, 1, has(5, 5)), of(0, 1<<32, has(6, 5)), of(1<<31, -1, has(7, 5))}
	for _, s := range l {
		who(t, "each", l, s.Addr, s.Block, 6, s.Sub)
	}
	for _, p := range []api.Span{{Addr: 2, Block: 1}, {Addr: 0, Block: 0}, {Addr: 0, Block: 1}, {Addr: 3, Block: 0}, {Addr: 1, Block: 2}, {Addr: 1, Block: -1}, {Addr: 1 << 31, Block: 65535}} {
		who(t, "none", l, p.Addr, p.Block, 6)
	}
}

// P10.2, R7: an empty list, an index of it, one that nothing made, and none at all.
func TestNothingToAsk(t *testing.T) {
	var none *trace.Index
	for _, time := range []int64{least, -1, 0, 1, greatest} {
		who(t, "nil", nil, 0, 0, time)
		who(t, "empty", []api.Span{}, home, 0, time)
		for what, x := range map[string]*trace.Index{"none": none, "that nothing made": {}, "new": new(trace.Index)} {
			if got := x.Who(home, 0, time); len(got) != 0 {
				t.Errorf("an index, %s: %v", what, got)
			}
		}
	}
}

// P10.2: any spans at any time, the list and the index against the chapter's words.
func TestWhoAgainstAModel(t *testing.T) {
	r := rand.New(rand.NewSource(2))
	for range 3000 {
		l := many(r, 40, drawnSpan)
		x := trace.New(l)
		for time := int64(-7); time <= 27; time++ {
			addr, block := uint32(r.Intn(2)), r.Intn(2)
			want := modelWho(l, addr, block, time)
			if got := x.Who(addr, block, time); !slices.Equal(got, want) {
				t.Fatalf("New(%v).Who(%d, %d, %d): %v, want %v", l, addr, block, time, got, want)
			}
			if got := trace.Who(l, addr, block, time); !slices.Equal(got, want) {
				t.Fatalf("Who(%v, %d, %d, %d): %v, want %v", l, addr, block, time, got, want)
			}
		}
	}
}

// P10.2: an index of many spans, asked at many times; one long span lies over them all.
func TestManySpans(t *testing.T) {
	const n = 200000
	l := []api.Span{had(1, 0, 10*n)}
	for i := range int64(n) {
		l = append(l, had(uint32(2+i%1000), 10*i, 10*i+4), had(1, 10*i, 10*i+9), of(8, int(i), has(uint32(i), i)))
	}
	x := trace.New(l)
	for i := range int64(n) {
		sub := uint32(2 + i%1000)
		in, beside, other := x.Who(home, 0, 10*i+4), x.Who(home, 0, 10*i+5), x.Who(8, int(i), n)
		if !slices.Equal(in, []uint32{1, sub}) || !slices.Equal(beside, []uint32{1}) || !slices.Equal(other, []uint32{uint32(i)}) {
			t.Fatalf("of many, at %d: %v, %v, %v", i, in, beside, other)
		}
	}
	if trace.Apart(l) || !trace.Apart(l[3:4]) {
		t.Error("many: Apart")
	}
}

// P10.1, P10.3: entries of many grants, each span behind the other.
func TestManyEntries(t *testing.T) {
	const n = 200000
	var l []api.Entry
	for i := range int64(n) {
		l = append(l, grant(2*i, uint32(i), int(i%7)))
	}
	s := trace.Spans(l)
	if len(s) != n || s[0] != had(0, 0, 13) || s[n-1] != of(home, (n-1)%7, has(n-1, 2*(n-1))) || !trace.Apart(s) {
		t.Errorf("many: %d, %v, %v", len(s), s[0], s[len(s)-1])
	}
}

// P10.3: spans that meet, and that don't.
func TestApart(t *testing.T) {
	apart(t, "none", true)
	apart(t, "one", true, had(1, 5, 9))
	apart(t, "one that is open", true, has(1, 5))
	for _, sub := range []uint32{1, 2} {
		apart(t, "at one time alone", false, had(1, 5, 9), had(sub, 9, 12))
		apart(t, "at none, one behind the other", true, had(1, 5, 9), had(sub, 10, 12))
		apart(t, "at none, with a gap", true, had(1, 5, 9), had(sub, 15, 20))
		apart(t, "the same twice", false, had(1, 5, 9), had(sub, 5, 9))
		apart(t, "one time, twice", false, had(1, 5, 5), had(sub, 5, 5))
		apart(t, "one within the other", false, had(1, 5, 9), had(sub, 6, 7))
		apart(t, "the same beginning", false, had(1, 5, 9), had(sub, 5, 5))
		apart(t, "the same end", false, had(1, 5, 9), had(sub, 9, 9))
		apart(t, "open, ahead of another", false, has(1, 5), had(sub, 9, 12))
		apart(t, "open, behind another", true, has(1, 10), had(sub, 5, 9))
		apart(t, "open, from another's end on", false, has(1, 9), had(sub, 5, 9))
		apart(t, "both open", false, has(1, 5), has(sub, 9))
		apart(t, "both open, at the greatest", false, has(1, greatest), has(sub, least))
		apart(t, "open, and one at the greatest", false, has(1, 5), had(sub, greatest, greatest))
		apart(t, "open, and one at the least", true, has(1, 5), had(sub, least, least))
		apart(t, "another block", true, had(1, 5, 9), of(home, 1, had(sub, 5, 9)))
		apart(t, "another address", true, had(1, 5, 9), of(8, 0, had(sub, 5, 9)))
		apart(t, "another place, open", true, has(1, 5), of(8, 0, has(sub, 5)), of(home, 1, has(sub, 5)), of(0, int(home), has(sub, 5)))
		apart(t, "an end ahead of its beginning", true, had(1, 5, 9), had(sub, 7, 6), had(sub, 9, 5), had(sub, greatest, least))
		apart(t, "such a one between", false, had(1, 5, 9), had(2, 7, 6), had(sub, 8, 8))
		apart(t, "not side by side", false, had(1, 1, 2), had(2, 3, 90), had(3, 95, 99), had(sub, 4, 5))
	}
	apart(t, "an open one with a To", false, api.Span{Sub: 1, Addr: home, From: 5, To: 3, Open: true}, had(2, 9, 9))
	apart(t, "end to end", true, had(1, least, -1), had(2, 0, 0), had(3, 1, greatest))
}

// P10.3: any spans, against each held with each other.
func TestApartAgainstAModel(t *testing.T) {
	r := rand.New(rand.NewSource(3))
	count := map[bool]int{}
	for range 20000 {
		l := many(r, 6, drawnSpan)
		want := modelApart(l)
		count[want]++
		if trace.Apart(l) != want {
			t.Fatalf("Apart(%v): not %v", l, want)
		}
	}
	if count[true] < 1000 || count[false] < 1000 {
		t.Errorf("one came seldom: %v", count)
	}
}

// P10.4: if Apart, Who tells one at most.
func TestApartTellsOne(t *testing.T) {
	r := rand.New(rand.NewSource(4))
	count := 0
	for range 20000 {
		l := many(r, 8, drawnSpan)
		if !trace.Apart(l) {
			continue
		}
		count++
		x := trace.New(l)
		for time := int64(-7); time <= 27; time++ {
			if got := x.Who(0, 0, time); len(got) > 1 || len(trace.Who(l, 0, 0, time)) > 1 {
				t.Fatalf("apart, and several: %v at %d: %v", l, time, got)
			}
		}
	}
	if count < 1000 {
		t.Errorf("apart %d times alone", count)
	}
}

// P10.4: entries behind, with Times above t, change nothing of what was told of t, where it was one.
func TestEntriesBehindChangeNothing(t *testing.T) {
	l := []api.Entry{grant(5, 1, 0), release(9, 0), grant(20, 2, 0)}
	for _, more := range [][]api.Entry{{grant(21, 3, 0)}, {release(21, 0)}, {release(21, 0), grant(21, 3, 0)}, {grant(22, 2, 0), release(22, 0)}, {{Kind: api.EntryBoot, Time: 21}}, {grant(21, 3, 1)}} {
		s := trace.Spans(slices.Concat(l, more))
		who(t, "behind, of the open one", s, home, 0, 20, 2)
		who(t, "behind, of the shut one", s, home, 0, 7, 1)
	}
	r := rand.New(rand.NewSource(5))
	for range 5000 {
		first, behind := many(r, 12, drawnEntry), many(r, 12, drawnEntry)
		time := int64(r.Intn(26) - 5)
		for i := range behind {
			behind[i].Time = time + 1 + int64(r.Intn(4)*r.Intn(4))
		}
		was, is := trace.Spans(first), trace.Spans(slices.Concat(first, behind))
		for _, p := range []api.Span{{Addr: 0, Block: 0}, {Addr: 1, Block: 0}, {Addr: 0, Block: -1}} {
			if told := modelWho(was, p.Addr, p.Block, time); len(told) == 1 {
				who(t, "behind", is, p.Addr, p.Block, time, told...)
			}
		}
	}
}

// R4: Spans does not change what is handed in, and its answer is new memory.
func TestMemoryOfSpans(t *testing.T) {
	r := rand.New(rand.NewSource(6))
	for range 300 {
		l := many(r, 12, drawnEntry)
		list, whole := roomy(l, grant(1, 99, 0))
		was := slices.Clone(whole)
		first, second := trace.Spans(list), trace.Spans(list)
		if !slices.Equal(whole, was) {
			t.Fatalf("what was handed in is changed: %v", whole)
		}
		want := modelSpans(l)
		spoil(first, has(77, 7))
		_ = append(first, has(78, 8))
		spoil(whole, grant(2, 98, 1))
		if !slices.Equal(second, want) {
			t.Fatalf("another answer is changed: %v, want %v", second, want)
		}
	}
}

// R4: Who, Apart and New do not change what is handed in; an index keeps nothing of it.
func TestMemoryOfWhoAndNew(t *testing.T) {
	r := rand.New(rand.NewSource(7))
	for range 300 {
		l := many(r, 12, drawnSpan)
		list, whole := roomy(l, of(0, 0, has(99, least)))
		was := slices.Clone(whole)
		x := trace.New(list)
		want := modelWho(l, 0, 0, 8)
		first, second := trace.Who(list, 0, 0, 8), trace.Who(list, 0, 0, 8)
		asked, again := x.Who(0, 0, 8), x.Who(0, 0, 8)
		if trace.Apart(list) != modelApart(l) || !slices.Equal(whole, was) {
			t.Fatalf("what was handed in is changed, or what is behind it is read: %v", whole)
		}
		spoil(whole, of(0, 0, has(98, least)))
		spoil(first, 77)
		spoil(asked, 77)
		_, _ = append(first, 78), append(asked, 78)
		for _, got := range [][]uint32{second, again, x.Who(0, 0, 8)} {
			if !slices.Equal(got, want) {
				t.Fatalf("another answer is changed: %v, want %v", got, want)
			}
		}
	}
}

// R4, R5: of spans that tell nothing new an index answers the same, asked in whatever order, beside another index.
func TestIndexesStandAlone(t *testing.T) {
	a, b := trace.New([]api.Span{had(1, 5, 9)}), trace.New([]api.Span{had(2, 5, 9)})
	for _, time := range []int64{9, 5, 10, 4, 9, 7} {
		want := time >= 5 && time <= 9
		if got := a.Who(home, 0, time); len(got) == 1 != want || want && got[0] != 1 {
			t.Errorf("the first at %d: %v", time, got)
		}
		if got := b.Who(home, 0, time); len(got) == 1 != want || want && got[0] != 2 {
			t.Errorf("the second at %d: %v", time, got)
		}
	}
}

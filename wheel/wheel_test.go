package wheel_test

import (
	"cmp"
	"fmt"
	"math"
	"math/rand"
	"slices"
	"testing"

	"bailiwick/api"
	"bailiwick/wheel"
)

const greatestKey = math.MaxUint64

// noTimes are times that are none.
var noTimes = []int64{-1, -2, math.MinInt64, api.MaxTime + 1, api.MaxTime + 2, 2 * api.MaxTime, math.MaxInt64}

// edges are times at each bound of what bits of a time may tell apart, with their neighbours, rising.
func edges() []int64 {
	out := []int64{0, api.MaxTime}
	for bit := range 41 {
		for _, t := range []int64{1<<bit - 1, 1 << bit, 1<<bit + 1, 3<<bit - 1, 3 << bit} {
			if t <= api.MaxTime {
				out = append(out, t)
			}
		}
	}
	slices.Sort(out)
	return slices.Compact(out)
}

// plain is the model: a list, sorted as Advance answers it.
type plain struct {
	now  int64
	list []wheel.Due
}

func isTime(t int64) bool { return t >= 0 && t <= api.MaxTime }

func order(a, b wheel.Due) int { return cmp.Or(cmp.Compare(a.At, b.At), cmp.Compare(a.Key, b.Key)) }

// find answers where a key stands, or -1.
func (p *plain) find(key uint64) int {
	return slices.IndexFunc(p.list, func(d wheel.Due) bool { return d.Key == key })
}

func (p *plain) drop(key uint64) bool {
	i := p.find(key)
	if i >= 0 {
		p.list = slices.Delete(p.list, i, i+1)
	}
	return i >= 0
}

func (p *plain) set(key uint64, at int64) api.Errno {
	if !isTime(at) {
		return api.ErrArg
	}
	p.drop(key)
	d := wheel.Due{Key: key, At: at}
	i, _ := slices.BinarySearchFunc(p.list, d, order)
	p.list = slices.Insert(p.list, i, d)
	return api.OK
}

func (p *plain) advance(to int64) ([]wheel.Due, api.Errno) {
	if to < p.now || !isTime(to) {
		return nil, api.ErrArg
	}
	p.now = to
	n := 0
	for n < len(p.list) && p.list[n].At <= to {
		n++
	}
	due := slices.Clone(p.list[:n])
	p.list = slices.Delete(p.list, 0, n)
	return due, api.OK
}

// pair is a wheel beside its model. Each call is made of both, and all that can be told is held against each other behind it.
type pair struct {
	t    *testing.T
	w    *wheel.Wheel
	m    plain
	seen map[uint64]bool // keys that some call named
}

func start(t *testing.T, now int64) *pair {
	t.Helper()
	w, e := wheel.New(now)
	if e != api.OK || w == nil {
		t.Fatalf("New(%d): %v, %v", now, w, e)
	}
	p := &pair{t: t, w: w, m: plain{now: now}, seen: map[uint64]bool{}}
	p.look("New", 0)
	return p
}

// look holds all that a wheel tells without a change against the model.
func (p *pair) look(what string, key uint64) {
	p.t.Helper()
	if got := p.w.Now(); got != p.m.now {
		p.t.Fatalf("%s: Now: %d, want %d", what, got, p.m.now)
	}
	if got := p.w.Len(); got != len(p.m.list) {
		p.t.Fatalf("%s: Len: %d, want %d", what, got, len(p.m.list))
	}
	var first int64
	if len(p.m.list) > 0 {
		first = p.m.list[0].At
	}
	if got, ok := p.w.Next(); got != first || ok != (len(p.m.list) > 0) {
		p.t.Fatalf("%s: Next: %d %v, want %d of %v", what, got, ok, first, p.m.list)
	}
	for _, k := range []uint64{key, key + 1, key - 1, 0, greatestKey} {
		p.lookAt(what, k)
	}
}

func (p *pair) lookAt(what string, key uint64) {
	p.t.Helper()
	var want int64
	i := p.m.find(key)
	if i >= 0 {
		want = p.m.list[i].At
	}
	if got, ok := p.w.At(key); got != want || ok != (i >= 0) {
		p.t.Fatalf("%s: At(%d): %d %v, want %d %v", what, key, got, ok, want, i >= 0)
	}
}

// lookAtAll asks At of each key that was ever named.
func (p *pair) lookAtAll(what string) {
	p.t.Helper()
	for k := range p.seen {
		p.lookAt(what, k)
	}
}

func (p *pair) set(key uint64, at int64) {
	p.t.Helper()
	p.seen[key] = true
	what := fmt.Sprintf("Set(%d, %d) at %d", key, at, p.m.now)
	if got, want := p.w.Set(key, at), p.m.set(key, at); got != want {
		p.t.Fatalf("%s: %v, want %v", what, got, want)
	}
	p.look(what, key)
}

func (p *pair) drop(key uint64) {
	p.t.Helper()
	p.seen[key] = true
	what := fmt.Sprintf("Drop(%d) at %d", key, p.m.now)
	if got, want := p.w.Drop(key), p.m.drop(key); got != want {
		p.t.Fatalf("%s: %v, want %v", what, got, want)
	}
	p.look(what, key)
}

// advance answers what both tell.
func (p *pair) advance(to int64) []wheel.Due {
	p.t.Helper()
	what := fmt.Sprintf("Advance(%d) at %d", to, p.m.now)
	got, e := p.w.Advance(to)
	want, bad := p.m.advance(to)
	if e != bad || !slices.Equal(got, want) {
		p.t.Fatalf("%s: %v %v, want %v %v", what, got, e, want, bad)
	}
	key := uint64(7)
	for _, d := range got {
		key = d.Key
		p.lookAt(what, key)
	}
	p.look(what, key)
	return got
}

// tells says what an Advance is to tell, in the test's own words beside the model's.
func (p *pair) tells(to int64, want ...wheel.Due) {
	p.t.Helper()
	if got := p.advance(to); !slices.Equal(got, want) {
		p.t.Fatalf("Advance(%d): %v, want %v", to, got, want)
	}
}

// filled gives a pair with keys at many times: past, now, near and far.
func filled(t *testing.T, now int64) *pair {
	t.Helper()
	p := start(t, now)
	for i, at := range []int64{now, now - 1, now / 2, 0, now + 1, now + 63, now + 64, now + 4096, now + 1<<30, api.MaxTime} {
		p.set(uint64(i), min(max(at, 0), api.MaxTime))
	}
	return p
}

// The chapter's examples.
func TestExamplesOfTheChapter(t *testing.T) {
	p := start(t, 5)
	p.set(2, 9)
	p.set(1, 9)
	p.set(7, 6)
	p.tells(8, wheel.Due{Key: 7, At: 6})
	p.tells(9, wheel.Due{Key: 1, At: 9}, wheel.Due{Key: 2, At: 9})
}

// P12.1: New takes times from 0 to MaxTime, and nothing is due then.
func TestNew(t *testing.T) {
	for _, now := range edges() {
		p := start(t, now)
		p.advance(now)
		p.advance(api.MaxTime)
	}
	for _, now := range noTimes {
		if w, e := wheel.New(now); w != nil || e != api.ErrArg {
			t.Errorf("New(%d): %v %v, want none and ErrArg", now, w, e)
		}
	}
}

// P12.1: Set takes times from 0 to MaxTime, whatever Now is.
func TestSetTakesAllTimes(t *testing.T) {
	for _, now := range []int64{0, 1, 70, 1<<39 + 5, api.MaxTime} {
		p := start(t, now)
		for i, at := range edges() {
			p.set(uint64(i), at)
		}
		p.lookAtAll("all")
		p.advance(now)
		p.advance(api.MaxTime)
	}
}

// P12.1: what Set refuses changes nothing, of a key that is there and of one that is not.
func TestSetRefused(t *testing.T) {
	for _, now := range []int64{0, 100, api.MaxTime} {
		p := filled(t, now)
		for _, at := range noTimes {
			p.set(99, at)
			for key := range uint64(10) {
				p.set(key, at)
			}
		}
		p.lookAtAll("behind what was refused")
		p.advance(now)
		p.advance(api.MaxTime)
	}
}

// P12.1: a key that is there is due at the new time alone: an earlier, the same, a later one, whatever level each belongs to.
func TestSetOfAKeyThatIsThere(t *testing.T) {
	l := edges()
	for i := 0; i < len(l); i += 3 {
		for j := 0; j < len(l); j += 3 {
			old, at := l[i], l[j]
			p := start(t, 0)
			p.set(5, old)
			p.set(5, at)
			if at > 0 {
				p.tells(at - 1)
			}
			p.tells(at, wheel.Due{Key: 5, At: at})
			p.tells(api.MaxTime)
		}
	}
}

// P12.1: the same among others that share its slots.
func TestSetAmongOthers(t *testing.T) {
	for _, now := range []int64{0, 4090, 1 << 20} {
		p := filled(t, now)
		for _, at := range []int64{now + 4000, now + 4000, now + 5, now + 1, now, now, now / 3, now + 70, now + 70, now + 1<<30, now + 1<<30 + 1, 0} {
			for key := range uint64(12) {
				p.set(key, at)
			}
			p.lookAtAll("moved")
		}
		p.set(3, now+9)
		p.set(4, now+8)
		p.advance(now)
		p.advance(now + 8)
		p.tells(now+9, wheel.Due{Key: 3, At: now + 9})
	}
}

// P12.1, P12.2: a key may be set to a time that is past. It is told at once, by the time it was set to.
func TestPast(t *testing.T) {
	for _, now := range []int64{1, 63, 64, 65, 4096, 1<<36 + 1, 1 << 39, api.MaxTime} {
		p := start(t, 0)
		p.tells(now)
		p.set(1, now)
		p.set(2, now-1)
		p.set(3, 0)
		p.set(4, now/2)
		p.set(5, now-1)
		p.drop(3)
		p.set(3, 0)
		want := []wheel.Due{{Key: 3}, {Key: 4, At: now / 2}, {Key: 2, At: now - 1}, {Key: 5, At: now - 1}, {Key: 1, At: now}}
		slices.SortFunc(want, order)
		p.tells(now, want...)
		p.tells(now)
		p.tells(api.MaxTime)
	}
}

// P12.1: a past key is moved ahead of now and back, and told where it stands then.
func TestPastMoved(t *testing.T) {
	p := start(t, 1000)
	p.set(1, 500)
	p.set(1, 1500)
	p.tells(1499)
	p.set(1, 400)
	p.set(2, 399)
	p.set(2, 401)
	p.tells(1499, wheel.Due{Key: 1, At: 400}, wheel.Due{Key: 2, At: 401})
	p.set(1, 1499)
	p.set(2, 0)
	p.tells(1500, wheel.Due{Key: 2}, wheel.Due{Key: 1, At: 1499})
}

// P12.2: each time is told when it is reached and not ahead of it, from each now: at each bound of the levels' slots.
func TestBoundsOfSlots(t *testing.T) {
	l := edges()
	for i := 0; i < len(l); i += 4 {
		for _, at := range l[i:] {
			p := start(t, l[i])
			p.set(9, at)
			if at > l[i] {
				p.tells(at - 1)
			}
			p.tells(at, wheel.Due{Key: 9, At: at})
			p.tells(at)
		}
	}
}

// P12.2: neighbours are told apart, also where a step stops between them.
func TestNeighbours(t *testing.T) {
	for _, now := range []int64{0, 62, 63, 64, 4095, 1<<36 - 1} {
		for _, at := range edges() {
			if at <= now || at >= api.MaxTime {
				continue
			}
			p := start(t, now)
			p.set(3, at-1)
			p.set(2, at)
			p.set(1, at+1)
			p.tells(at-1, wheel.Due{Key: 3, At: at - 1})
			p.tells(at, wheel.Due{Key: 2, At: at})
			p.tells(at+1, wheel.Due{Key: 1, At: at + 1})
		}
	}
}

// P12.1: Drop of a key that is there, of one that is not, of one that was dropped, told or moved.
func TestDrop(t *testing.T) {
	for _, now := range []int64{0, 100, 1 << 35, api.MaxTime} {
		p := filled(t, now)
		for _, key := range []uint64{0, 9, 9, 77, 5, 3, 0, greatestKey} {
			p.drop(key)
		}
		p.lookAtAll("dropped")
		p.advance(now)
		for key := range uint64(11) {
			p.drop(key)
		}
		p.advance(api.MaxTime)
		p.set(4, 5)
		p.set(4, api.MaxTime)
		p.drop(4)
		p.drop(4)
		p.advance(api.MaxTime)
	}
}

// P12.1: a key that was dropped may be set again.
func TestSetBehindDrop(t *testing.T) {
	p := start(t, 10)
	p.set(1, 20)
	p.drop(1)
	p.tells(20)
	p.set(1, 30)
	p.tells(30, wheel.Due{Key: 1, At: 30})
}

// P12.1: any number is a key, and keys are told in the order of numbers without a sign.
func TestKeys(t *testing.T) {
	keys := []uint64{greatestKey, 0, 1 << 63, 1<<63 - 1, 1, 1 << 32, greatestKey - 1}
	p := start(t, 0)
	for _, k := range keys {
		p.set(k, 8)
	}
	p.drop(1 << 32)
	p.set(1<<32, 8)
	slices.Sort(keys)
	var want []wheel.Due
	for _, k := range keys {
		want = append(want, wheel.Due{Key: k, At: 8})
	}
	p.tells(8, want...)
}

// P12.1: Next with nothing due, one, several, past ones; behind the drop of the first, and when another comes ahead of it.
func TestNext(t *testing.T) {
	p := start(t, 500)
	next := func(at int64, ok bool) {
		t.Helper()
		if got, is := p.w.Next(); got != at || is != ok {
			t.Fatalf("Next: %d %v, want %d %v", got, is, at, ok)
		}
	}
	next(0, false)
	p.set(1, 9000)
	next(9000, true)
	p.set(2, 8000)
	next(8000, true)
	p.set(3, 8500)
	next(8000, true)
	p.set(2, 9500)
	next(8500, true)
	p.drop(3)
	next(9000, true)
	p.set(4, 500)
	next(500, true)
	p.set(5, 499)
	next(499, true)
	p.set(6, 0)
	next(0, true)
	p.drop(6)
	p.drop(5)
	next(500, true)
	p.advance(8999)
	next(9000, true)
	p.advance(9000)
	next(9500, true)
	p.advance(9500)
	next(0, false)
}

// P12.1: the first of many that share a slot is found, whichever go.
func TestNextOfManyInASlot(t *testing.T) {
	r := rand.New(rand.NewSource(12))
	for _, base := range []int64{1 << 12, 1 << 24, 1 << 36} {
		p := start(t, 0)
		for key := range uint64(200) {
			p.set(key, base+r.Int63n(base))
		}
		for len(p.m.list) > 0 {
			i := 0
			if r.Intn(3) == 0 {
				i = r.Intn(len(p.m.list))
			}
			p.drop(p.m.list[i].Key)
		}
	}
}

// P12.2: what Advance refuses changes nothing, not even what is past.
func TestAdvanceRefused(t *testing.T) {
	for _, now := range []int64{0, 1, 100, 1 << 36, api.MaxTime} {
		p := filled(t, now)
		for _, to := range append([]int64{now - 1, now - 64, now / 2, 0}, noTimes...) {
			if to >= now && to <= api.MaxTime {
				continue
			}
			if got, e := p.w.Advance(to); len(got) != 0 || e != api.ErrArg {
				t.Fatalf("Advance(%d) at %d: %v %v, want none and ErrArg", to, now, got, e)
			}
			p.look("refused", 3)
			p.lookAtAll("refused")
		}
		p.advance(now)
		p.advance(api.MaxTime)
	}
}

// P12.2: nothing is told where nothing is due, but time goes on.
func TestNothingDue(t *testing.T) {
	p := start(t, 3)
	for _, to := range []int64{3, 4, 4, 64, 1 << 20, 1<<36 - 1, 1 << 36, api.MaxTime, api.MaxTime} {
		p.tells(to)
	}
	p = start(t, 3)
	p.set(1, api.MaxTime)
	for _, to := range []int64{3, 4, 63, 64, 65, 1 << 20, 1<<36 - 1, 1 << 36, api.MaxTime - 1} {
		p.tells(to)
	}
	p.tells(api.MaxTime, wheel.Due{Key: 1, At: api.MaxTime})
}

// P12.2: step by step, one at a time, over the bounds of the lowest levels.
func TestAdvanceByOne(t *testing.T) {
	p := start(t, 3900)
	for key := range uint64(400) {
		p.set(key, 3900+int64(key*key%397))
	}
	for to := int64(3900); to < 4400; to++ {
		p.advance(to)
	}
	if p.w.Len() != 0 {
		t.Errorf("%d are left", p.w.Len())
	}
}

// P12.2: by rising At, of one time by rising Key, in whatever order they were set.
func TestOrder(t *testing.T) {
	r := rand.New(rand.NewSource(1))
	var all []wheel.Due
	for key := range uint64(300) {
		all = append(all, wheel.Due{Key: key * 0x9E3779B97F4A7C15, At: 1000 + int64(key%7)*int64(key%5)*900})
	}
	for range 20 {
		r.Shuffle(len(all), func(i, j int) { all[i], all[j] = all[j], all[i] })
		p := start(t, 2000)
		for _, d := range all {
			p.set(d.Key, d.At)
		}
		want := slices.Clone(all)
		slices.SortFunc(want, order)
		p.tells(api.MaxTime, want...)
	}
}

// P12.2: many keys of one time.
func TestManyAtOneTime(t *testing.T) {
	const n = 100000
	for _, at := range []int64{0, 9, 70, 1 << 38} {
		w, _ := wheel.New(9)
		for key := range uint64(n) {
			w.Set(n-1-key, at)
		}
		if got, e := w.Advance(8); e != api.ErrArg || len(got) != 0 || w.Len() != n {
			t.Fatalf("Advance(8): %d told, %v, %d left", len(got), e, w.Len())
		}
		got, _ := w.Advance(max(at, 9))
		if len(got) != n || w.Len() != 0 {
			t.Fatalf("at %d: %d told, %d left", at, len(got), w.Len())
		}
		for i, d := range got {
			if d != (wheel.Due{Key: uint64(i), At: at}) {
				t.Fatalf("at %d: place %d: %v", at, i, d)
			}
		}
	}
}

// P12.2: what was told is due no more, and its key may be set again: to the same time, an earlier and a later one.
func TestToldIsDueNoMore(t *testing.T) {
	for _, at := range []int64{50, 63, 64, 5000, 1 << 37} {
		p := start(t, 10)
		p.set(1, at)
		p.set(2, at)
		p.tells(at, wheel.Due{Key: 1, At: at}, wheel.Due{Key: 2, At: at})
		p.tells(at)
		p.drop(1)
		for _, again := range []int64{at, at - 1, 0, at + 1, at + 100, 1<<38 + at} {
			p.set(2, again)
			p.tells(max(again, p.m.now), wheel.Due{Key: 2, At: again})
		}
		p.tells(api.MaxTime)
	}
}

// P12.3: several steps tell what one step tells, one behind the other, and leave the same.
func TestSeveralSteps(t *testing.T) {
	r := rand.New(rand.NewSource(3))
	for range 400 {
		now := drawnTime(r, 0)
		one, many := start(t, now), start(t, now)
		for range r.Intn(60) {
			key, at := r.Uint64()>>r.Intn(64), drawnTime(r, now)
			one.set(key, at)
			many.set(key, at)
		}
		to := max(now, drawnTime(r, now))
		var steps []int64
		for range r.Intn(8) {
			steps = append(steps, now+r.Int63n(to-now+1))
		}
		slices.Sort(steps)
		var told []wheel.Due
		for _, s := range append(steps, to) {
			told = append(told, many.advance(s)...)
		}
		if want := one.advance(to); !slices.Equal(told, want) {
			t.Fatalf("from %d by %v to %d: %v, want %v", now, steps, to, told, want)
		}
		if left, want := many.advance(api.MaxTime), one.advance(api.MaxTime); !slices.Equal(left, want) {
			t.Fatalf("from %d by %v to %d: %v are left, want %v", now, steps, to, left, want)
		}
	}
}

// drawnTime gives a time: near to now or far from it, behind or ahead, or at a bound.
func drawnTime(r *rand.Rand, now int64) int64 {
	far := r.Int63n(1 << (1 + r.Intn(41)))
	at := now + far
	switch r.Intn(6) {
	case 0:
		at = now - far
	case 1:
		l := edges()
		at = l[r.Intn(len(l))]
	case 2:
		at = now | 1<<r.Intn(41) - 1
	case 3:
		at = (now | 1<<r.Intn(41) - 1) + 1
	}
	return min(max(at, 0), api.MaxTime)
}

// All calls against the model, in long drawn runs.
func TestDrawnRuns(t *testing.T) {
	r := rand.New(rand.NewSource(2))
	for run := range 60 {
		p := start(t, drawnTime(r, 0)>>r.Intn(41))
		keys := 1 + r.Intn(80)
		for range 1000 {
			key := uint64(r.Intn(keys))
			switch d := r.Intn(20); {
			case d < 11:
				p.set(key, drawnTime(r, p.m.now))
			case d < 15:
				p.drop(key)
			case d < 16:
				p.set(key, noTimes[r.Intn(len(noTimes))])
			case d < 17:
				p.advance(p.m.now - 1 - r.Int63n(100))
			case d < 18 && len(p.m.list) > 0:
				p.advance(max(p.m.now, p.m.list[0].At)) // to what is due next
			default:
				p.advance(min(p.m.now+r.Int63n(1<<(1+r.Intn(2+run%36))), api.MaxTime))
			}
		}
		p.lookAtAll("at the end")
		p.advance(api.MaxTime)
	}
}

// What a program does that waits for one after the other: with Next, to what is due.
func TestFromNextToNext(t *testing.T) {
	r := rand.New(rand.NewSource(4))
	p := start(t, 77)
	for key := range uint64(300) {
		p.set(key, 78+r.Int63n(1<<(1+r.Intn(40))))
	}
	for {
		at, ok := p.w.Next()
		if !ok {
			break
		}
		if p.tells(at - 1); len(p.advance(at)) == 0 {
			t.Fatalf("nothing is due at %d", at)
		}
	}
	if p.w.Len() != 0 {
		t.Errorf("%d are left", p.w.Len())
	}
}

// R4: what is answered is new memory, its spare room too: who writes there changes nothing.
func TestAnswersAreNewMemory(t *testing.T) {
	a, b := filled(t, 50), filled(t, 50)
	spoil := func(l []wheel.Due) {
		l = l[:cap(l)]
		for i := range l {
			l[i] = wheel.Due{Key: 99, At: 98}
		}
	}
	var kept [][]wheel.Due
	for _, to := range []int64{50, 51, 50 + 64, 50 + 5000, api.MaxTime} {
		spoil(a.advance(to))
		kept = append(kept, b.advance(to))
		a.lookAtAll("spoilt")
	}
	copies := make([][]wheel.Due, len(kept))
	for i, l := range kept {
		copies[i] = slices.Clone(l)
	}
	for i := range kept {
		spoil(kept[i])
		for j := i + 1; j < len(kept); j++ {
			if !slices.Equal(kept[j], copies[j]) {
				t.Errorf("answer %d shares memory with answer %d", j, i)
			}
		}
	}
}

// R5: wheels have nothing in common.
func TestWheelsApart(t *testing.T) {
	a, b := start(t, 5), start(t, 6)
	a.set(1, 70)
	b.look("beside", 1)
	b.set(1, 80)
	a.look("beside", 1)
	a.advance(75)
	b.look("beside", 1)
	b.drop(1)
	a.set(1, 90)
	b.tells(api.MaxTime)
	a.tells(90, wheel.Due{Key: 1, At: 90})
}

// R7: a wheel that no call made.
func TestNotMade(t *testing.T) {
	for _, w := range []*wheel.Wheel{nil, {}, new(wheel.Wheel)} {
		for _, at := range []int64{0, 5, -1, api.MaxTime, api.MaxTime + 1} {
			if e := w.Set(1, at); e != api.ErrState {
				t.Errorf("Set(1, %d): %v", at, e)
			}
			if l, e := w.Advance(at); len(l) != 0 || e != api.ErrState {
				t.Errorf("Advance(%d): %v %v", at, l, e)
			}
		}
		if w.Drop(1) {
			t.Error("Drop: true")
		}
		if at, ok := w.At(1); at != 0 || ok {
			t.Errorf("At: %d %v", at, ok)
		}
		if at, ok := w.Next(); at != 0 || ok {
			t.Errorf("Next: %d %v", at, ok)
		}
		if w.Len() != 0 || w.Now() != 0 {
			t.Errorf("Len %d, Now %d", w.Len(), w.Now())
		}
	}
}

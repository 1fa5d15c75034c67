package octet_test

import (
	"bytes"
	"encoding/binary"
	"hash/crc32"
	"math"
	"math/rand"
	"slices"
	"testing"

	"bailiwick/octet"
)

// roomy gives bytes that have spare room behind them, filled with a mark, and a look at all of it.
func roomy(b ...byte) (list, whole []byte) {
	whole = append(slices.Clone(b), bytes.Repeat([]byte{0xa5}, 16)...)
	return whole[:len(b)], whole
}

// outside lists places and lengths at which three bytes hold no number.
var outside = []struct{ at, n int }{
	{0, 0}, {0, -1}, {0, 4}, {0, 8}, {0, 9}, {0, math.MaxInt}, {0, math.MinInt},
	{-1, 1}, {-1, 2}, {-2, 4}, {-8, 8}, {math.MinInt, 1}, {math.MinInt, 8}, {math.MinInt, math.MinInt},
	{1, 3}, {2, 2}, {3, 1}, {4, 1}, {3, 0}, {4, -1}, {5, -2}, {2, -1},
	{math.MaxInt, 1}, {math.MaxInt, 8}, {math.MaxInt - 7, 8}, {math.MaxInt, math.MaxInt},
}

// P1.1: ordinary numbers of every length at every place.
func TestGetReadsHighestFirst(t *testing.T) {
	b := []byte{0x81, 2, 3, 4, 5, 6, 7, 8, 9, 0xfa, 0}
	for n := 1; n <= 8; n++ {
		for at := 0; at+n <= len(b); at++ {
			var eight [8]byte
			copy(eight[8-n:], b[at:at+n])
			want := binary.BigEndian.Uint64(eight[:])
			if got, ok := octet.Get(b, at, n); got != want || !ok {
				t.Errorf("Get(b, %d, %d) = %x, %v, want %x", at, n, got, ok, want)
			}
		}
	}
	if got, ok := octet.Get(bytes.Repeat([]byte{255}, 8), 0, 8); got != math.MaxUint64 || !ok {
		t.Errorf("eight bytes of ones: %x, %v", got, ok)
	}
}

// P1.1: the chapter's examples.
func TestNumbersOfTheChapter(t *testing.T) {
	if got, ok := octet.Get([]byte{1, 2, 3}, 1, 2); got != 515 || !ok {
		t.Errorf("Get(1 2 3, 1, 2) = %d, %v", got, ok)
	}
	if got, ok := octet.Get([]byte{1, 2, 3}, 2, 2); got != 0 || ok {
		t.Errorf("Get(1 2 3, 2, 2) = %d, %v", got, ok)
	}
	if got, ok := octet.Get([]byte{1}, 0, 0); got != 0 || ok {
		t.Errorf("Get(1, 0, 0) = %d, %v", got, ok)
	}
	if got, ok := octet.Put([]byte{1, 2, 3}, 0, 2, 70000); !bytes.Equal(got, []byte{17, 112, 3}) || !ok {
		t.Errorf("Put(1 2 3, 0, 2, 70000) = %v, %v", got, ok)
	}
}

// P1.1: what does not lie wholly in the bytes, and lengths that no number has.
func TestNumbersOutside(t *testing.T) {
	list, whole := roomy(1, 2, 3)
	was := slices.Clone(whole)
	for _, c := range outside {
		if got, ok := octet.Get(list, c.at, c.n); got != 0 || ok {
			t.Errorf("Get(1 2 3, %d, %d) = %d, %v", c.at, c.n, got, ok)
		}
		if got, ok := octet.Put(list, c.at, c.n, 7); len(got) != 0 || ok {
			t.Errorf("Put(1 2 3, %d, %d, 7) = %v, %v", c.at, c.n, got, ok)
		}
	}
	for _, none := range [][]byte{nil, {}} {
		for n := -1; n <= 9; n++ {
			if got, ok := octet.Get(none, 0, n); got != 0 || ok {
				t.Errorf("Get(none, 0, %d) = %d, %v", n, got, ok)
			}
			if got, ok := octet.Put(none, 0, n, 7); len(got) != 0 || ok {
				t.Errorf("Put(none, 0, %d, 7) = %v, %v", n, got, ok)
			}
		}
	}
	long := make([]byte, 20)
	if got, ok := octet.Get(long, 0, 9); got != 0 || ok {
		t.Errorf("nine bytes of twenty: %d, %v", got, ok)
	}
	if got, ok := octet.Put(long, 0, 9, 1); len(got) != 0 || ok {
		t.Errorf("nine bytes of twenty: %v, %v", got, ok)
	}
	if !bytes.Equal(whole, was) {
		t.Errorf("what was handed in is changed: %v", whole)
	}
}

// P1.1: Put lays the lowest n bytes there and leaves the others as they are.
func TestPutLaysLowestBytes(t *testing.T) {
	const x = 0x8123456789abcdef
	var eight [8]byte
	binary.BigEndian.PutUint64(eight[:], x)
	b := []byte{11, 12, 13, 14, 15, 16, 17, 18, 19, 20, 21}
	for n := 1; n <= 8; n++ {
		for at := 0; at+n <= len(b); at++ {
			want := slices.Clone(b)
			copy(want[at:], eight[8-n:])
			got, ok := octet.Put(b, at, n, x)
			if !bytes.Equal(got, want) || !ok {
				t.Errorf("Put(b, %d, %d) = %v, %v, want %v", at, n, got, ok, want)
			}
			back, _ := octet.Get(got, at, n)
			if want := x & (uint64(math.MaxUint64) >> (64 - 8*n)); back != want {
				t.Errorf("Get behind Put(b, %d, %d) = %x, want %x", at, n, back, want)
			}
		}
	}
}

// P1.1, R4: the answer is new memory, and what is handed in stays, its spare room too.
func TestPutAnswersNewMemory(t *testing.T) {
	list, whole := roomy(1, 2, 3)
	was := slices.Clone(whole)
	one, _ := octet.Put(list, 1, 2, 0x0909)
	two, _ := octet.Put(list, 1, 2, 0x0909)
	for i := range one[:cap(one)] {
		one[:cap(one)][i] = 77
	}
	if !bytes.Equal(whole, was) {
		t.Errorf("what was handed in is changed: %v", whole)
	}
	if !bytes.Equal(two, []byte{1, 9, 9}) {
		t.Errorf("another answer is changed: %v", two)
	}
	list[0] = 200
	if two[0] != 1 {
		t.Error("the answer follows what was handed in")
	}
}

// modelSum adds word by word, in the chapter's own words.
func modelSum(b []byte) int {
	if len(b)%2 == 1 {
		b = append(slices.Clone(b), 0)
	}
	total := 0
	for i := 0; i < len(b); i += 2 {
		total += int(b[i])*256 + int(b[i+1])
	}
	for total > 65535 {
		total = total/65536 + total%65536
	}
	return total
}

// P1.2: the chapter's examples and the edges: none, one byte, words of 0, words of ones.
func TestSumOfTheChapter(t *testing.T) {
	x := []byte{0, 1, 0xf2, 3, 0xf4, 0xf5, 0xf6, 0xf7}
	cases := []struct {
		parts [][]byte
		want  int
	}{
		{[][]byte{x}, 0xddf2},
		{[][]byte{{255}}, 0xff00},
		{nil, 0},
		{[][]byte{nil}, 0},
		{[][]byte{{}, nil, {}}, 0},
		{[][]byte{{0}}, 0},
		{[][]byte{{0, 0, 0, 0}}, 0},
		{[][]byte{{0, 1}}, 1},
		{[][]byte{{1, 0, 2}}, 0x0300},
		{[][]byte{{255, 255}}, 65535},
		{[][]byte{{255, 255, 255, 255}}, 65535},
		{[][]byte{{255, 255, 0, 1}}, 1},
		{[][]byte{{0x80, 0, 0x80, 0}}, 1},
		{[][]byte{{1}, {2}}, 0x0102},
		{[][]byte{{1}, nil, {2, 3}, {4}}, 0x0102 + 0x0304},
	}
	for _, c := range cases {
		if got := octet.Sum(c.parts...); got != c.want {
			t.Errorf("Sum(%v) = %x, want %x", c.parts, got, c.want)
		}
		if got := octet.Check(c.parts...); got != 65535-c.want {
			t.Errorf("Check(%v) = %x, want %x", c.parts, got, 65535-c.want)
		}
	}
	if got := octet.Check(x); got != 0x220d {
		t.Errorf("Check of the example = %x", got)
	}
}

// P1.2: a carry that makes another carry: 1ffff becomes 10000, and that 1.
func TestSumCarriesAgain(t *testing.T) {
	if got := octet.Sum([]byte{255, 255, 255, 255, 0, 1}); got != 1 {
		t.Errorf("1ffff: %d", got)
	}
	// Beyond 32 bits: more words of ones than one fold brings to 17 bits.
	ones := bytes.Repeat([]byte{255, 255}, 70000)
	if got := octet.Sum(ones); got != 65535 {
		t.Errorf("words of ones: %d", got)
	}
	if got := octet.Sum(ones, ones, []byte{0, 1}); got != 1 {
		t.Errorf("words of ones and a one: %d", got)
	}
}

// P1.2: bytes of many lengths against the model.
func TestSumAsTheModel(t *testing.T) {
	r := rand.New(rand.NewSource(1))
	for n := range 300 {
		b := make([]byte, n)
		r.Read(b)
		if got, want := octet.Sum(b), modelSum(b); got != want {
			t.Errorf("%d bytes: %d, want %d", n, got, want)
		}
		if got, want := octet.Check(b), 65535-modelSum(b); got != want {
			t.Errorf("%d bytes: check %d, want %d", n, got, want)
		}
	}
}

// P1.2: Plus at the edges: numbers beyond 16 bits and below 0.
func TestPlus(t *testing.T) {
	cases := []struct{ a, b, want int }{
		{0, 0, 0}, {1, 2, 3}, {65534, 1, 65535}, {65535, 0, 65535}, {0, 65535, 65535},
		{65535, 1, 1}, {1, 65535, 1}, {65535, 65535, 65535}, {32768, 32768, 1},
		{65536, 0, 0}, {65536, 65536, 0}, {65537, 65538, 3}, {-1, 0, 65535}, {-1, 1, 1}, {-1, -1, 65535},
		{-2, 1, 65535}, {-65536, 5, 5}, {-1, 65537, 1},
		{math.MinInt, math.MaxInt, 65535}, {math.MaxInt, math.MaxInt, 65535}, {math.MinInt, math.MinInt, 0},
	}
	for _, c := range cases {
		if got := octet.Plus(c.a, c.b); got != c.want {
			t.Errorf("Plus(%d, %d) = %d, want %d", c.a, c.b, got, c.want)
		}
	}
}

// P1.3: the chapter's example, sums that are all 0 or all ones, numbers beyond 16 bits and below 0.
func TestUpdate(t *testing.T) {
	cases := []struct{ check, old, new, want int }{
		{0xdd2f, 0x5555, 0x3285, 0},
		{65535, 0, 0, 0},
		{65535, 0, 1, 65534},
		{0, 0, 0, 0},
		{0, 65535, 1, 65534},
		{0, 65535, 0, 0},
		{65535, 65535, 0, 65535},
		{65534, 1, 0, 0},
		{-1, 65536, 0, 0},
		{65536, 131071, 65537, 65534},
		{0x1dd2f, 0x75555, -0x10000 + 0x3285, 0},
		{math.MinInt, math.MaxInt, math.MinInt, 0},
		{math.MaxInt, math.MinInt, math.MaxInt, 0},
	}
	for _, c := range cases {
		if got := octet.Update(c.check, c.old, c.new); got != c.want {
			t.Errorf("Update(%x, %x, %x) = %x, want %x", c.check, c.old, c.new, got, c.want)
		}
	}
}

// P1.3: only the lowest 16 bits of each count, and the answer is the chapter's formula by Plus.
func TestUpdateIsItsFormula(t *testing.T) {
	r := rand.New(rand.NewSource(2))
	for range 20000 {
		c, o, n := int(r.Uint64()), int(r.Uint64()), int(r.Uint64())
		c16, o16, n16 := c&65535, o&65535, n&65535
		want := 65535 - octet.Plus(octet.Plus(65535-c16, 65535-o16), n16)
		if got := octet.Update(c, o, n); got != want {
			t.Fatalf("Update(%d, %d, %d) = %d, want %d", c, o, n, got, want)
		}
		if got := octet.Update(c16, o16, n16); got != want {
			t.Fatalf("Update(%d, %d, %d) = %d, want %d", c16, o16, n16, got, want)
		}
	}
}

// P1.4: the chapter's example, none, single bytes, and others against the library's table.
func TestCrc(t *testing.T) {
	if got := octet.Crc([]byte("123456789")); got != 0xcbf43926 {
		t.Errorf("Crc of 123456789 = %x", got)
	}
	if got := octet.Crc(nil); got != 0 {
		t.Errorf("Crc of nothing = %x", got)
	}
	if got := octet.Crc([]byte{}); got != 0 {
		t.Errorf("Crc of an empty list = %x", got)
	}
	for x := range 256 {
		b := []byte{byte(x)}
		if got, want := octet.Crc(b), crc32.ChecksumIEEE(b); got != want {
			t.Errorf("Crc of %d = %x, want %x", x, got, want)
		}
	}
	r := rand.New(rand.NewSource(3))
	for n := range 300 {
		b := make([]byte, n)
		r.Read(b)
		if got, want := octet.Crc(b), crc32.ChecksumIEEE(b); got != want {
			t.Errorf("Crc of %d bytes = %x, want %x", n, got, want)
		}
	}
}

// P1.4, R5: no call leaves something in the register for the next.
func TestCrcBeginsAnew(t *testing.T) {
	first := octet.Crc([]byte{1, 2, 3})
	octet.Crc([]byte{9})
	if again := octet.Crc([]byte{1, 2, 3}); again != first {
		t.Errorf("%x, then %x", first, again)
	}
}

// P1.5: Sum does not hang on where parts begin: every two cuts of bytes of odd and even length.
func TestSumOverParts(t *testing.T) {
	r := rand.New(rand.NewSource(4))
	for n := range 24 {
		b := make([]byte, n)
		r.Read(b)
		want := octet.Sum(b)
		for i := 0; i <= n; i++ {
			for j := i; j <= n; j++ {
				if got := octet.Sum(b[:i], b[i:j], b[j:]); got != want {
					t.Errorf("%d bytes cut at %d and %d: %d, want %d", n, i, j, got, want)
				}
				if got := octet.Check(b[:i], b[i:j], b[j:]); got != 65535-want {
					t.Errorf("%d bytes cut at %d and %d: check %d, want %d", n, i, j, got, 65535-want)
				}
			}
		}
		var single [][]byte
		for i := range b {
			single = append(single, nil, b[i:i+1])
		}
		if got := octet.Sum(single...); got != want {
			t.Errorf("%d bytes one by one: %d, want %d", n, got, want)
		}
	}
}

// P1.5: Update of the Check is the Check then, for words at even places; all zeros are apart.
func TestUpdateFollowsCheck(t *testing.T) {
	r := rand.New(rand.NewSource(5))
	edges := []uint64{0, 1, 255, 256, 0x7fff, 0x8000, 65534, 65535}
	for range 2000 {
		b := make([]byte, 2+r.Intn(9))
		r.Read(b)
		if r.Intn(3) == 0 {
			clear(b)
		}
		at := 2 * r.Intn(len(b)/2)
		next := edges[r.Intn(len(edges))]
		old, _ := octet.Get(b, at, 2)
		c, _ := octet.Put(b, at, 2, next)
		got := octet.Update(octet.Check(b), int(old), int(next))
		want := octet.Check(c)
		if modelSum(c) == 0 {
			if want != 65535 {
				t.Fatalf("Check of zeros = %d", want)
			}
			want = 0
		}
		if got != want {
			t.Fatalf("%v to %v: Update %d, want %d", b, c, got, want)
		}
	}
}

// P1.5: where all bytes become 0, Update says 0 and Check 65535.
func TestUpdateToZeros(t *testing.T) {
	b := []byte{0, 0, 0x12, 0x34, 0}
	c, _ := octet.Put(b, 2, 2, 0)
	if got := octet.Update(octet.Check(b), 0x1234, 0); got != 0 {
		t.Errorf("Update = %d", got)
	}
	if got := octet.Check(c); got != 65535 {
		t.Errorf("Check = %d", got)
	}
}

// P1.5: with two words changed about the Sum stays.
func TestSumOfWordsChangedAbout(t *testing.T) {
	r := rand.New(rand.NewSource(6))
	for range 500 {
		b := make([]byte, 4+r.Intn(9))
		r.Read(b)
		i, j := 2*r.Intn(len(b)/2), 2*r.Intn(len(b)/2)
		c := slices.Clone(b)
		copy(c[i:i+2], b[j:j+2])
		copy(c[j:j+2], b[i:i+2])
		if octet.Sum(b) != octet.Sum(c) {
			t.Fatalf("%v: %d, %v: %d", b, octet.Sum(b), c, octet.Sum(c))
		}
	}
}

// R4: no call changes what is handed in, its spare room included.
func TestNothingHandedInIsChanged(t *testing.T) {
	one, oneWhole := roomy(1, 2, 3)
	two, twoWhole := roomy(255)
	parts := [][]byte{one, two, nil, {9}}[:3]
	oneWas, twoWas := slices.Clone(oneWhole), slices.Clone(twoWhole)
	octet.Get(one, 0, 3)
	octet.Put(one, 0, 3, 0)
	octet.Sum(parts...)
	octet.Check(parts...)
	octet.Crc(one)
	octet.Crc(two)
	if !bytes.Equal(oneWhole, oneWas) || !bytes.Equal(twoWhole, twoWas) {
		t.Errorf("bytes are changed: %v, %v", oneWhole, twoWhole)
	}
	if &parts[0][0] != &one[0] || &parts[1][0] != &two[0] || parts[2] != nil || parts[:4][3][0] != 9 {
		t.Errorf("the list of parts is changed: %v", parts[:4])
	}
}

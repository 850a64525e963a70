package wide_test

import (
	"math"
	"math/rand/v2"
	"slices"
	"strconv"
	"strings"
	"testing"

	"betony/wide"
)

const last = 0x10ffff

// The rows, as the chapter's words tell them.
const (
	controls = "0 to 1f, 7f to 9f"
	marks    = "300 to 36f, 483 to 489, 591 to 5bd, 610 to 61a, 64b to 65f, 200b to 200f, 20d0 to 20f0, fe00 to fe0f, fe20 to fe2f"
	wides    = "1100 to 115f, 2e80 to 303e, 3041 to 33ff, 3400 to 4dbf, 4e00 to 9fff, a000 to a4cf, ac00 to d7a3, f900 to faff, fe30 to fe6f, ff00 to ff60, ffe0 to ffe6, 1f300 to 1f64f, 1f900 to 1f9ff, 20000 to 3fffd"
)

// bound is a row's number.
func bound(s string) rune {
	n, err := strconv.ParseInt(s, 16, 32)
	if err != nil {
		panic(err)
	}
	return rune(n)
}

// each hands f the first and the last rune of each row that is told by words.
func each(words string, f func(first, last rune)) {
	for _, w := range strings.Split(words, ", ") {
		a, b, ok := strings.Cut(w, " to ")
		if !ok {
			panic(w)
		}
		f(bound(a), bound(b))
	}
}

// known are the widths of all runes by the words, made once.
var known = func() []int {
	l := slices.Repeat([]int{1}, last+1)
	for _, x := range []struct {
		words string
		width int
	}{{controls, -1}, {marks, 0}, {wides, 2}} {
		each(x.words, func(first, last rune) {
			for r := first; r <= last; r++ {
				l[r] = x.width
			}
		})
	}
	return l
}()

// wordsWidth is a rune's width by the words.
func wordsWidth(r rune) int {
	if r < 0 || r > last {
		return -1
	}
	return known[r]
}

// wordsText is how many cells s takes by the words.
func wordsText(s []rune) int {
	sum := 0
	for _, r := range s {
		if w := wordsWidth(r); w != -1 {
			sum += w
		}
	}
	return sum
}

// noRunes are below all runes, and above them.
func noRunes() []rune {
	return []rune{math.MinInt32, math.MinInt32 + 1, -last, -0x4e00, -0x301, -'a', -2, -1, last + 1, last + 2, 0x1fffff, 1<<24 + 'a', 0x40000000 + 0x4e00, math.MaxInt32 - 1, math.MaxInt32}
}

// edges are the runes at all bounds, on either side.
func edges() []rune {
	l := noRunes()
	for _, words := range []string{controls, marks, wides} {
		each(words, func(first, last rune) { l = append(l, first-1, first, last, last+1) })
	}
	return append(l, 'a', ' ', '~', 0xa0, 0xd800, 0xdfff, 0xfffd, 0xffff, 0x10000, 0x1f650, last-1, last)
}

// P3.1: Width, of runes whose widths are known.
func TestWidth(t *testing.T) {
	for _, x := range []struct {
		want  int
		runes []rune
	}{
		{-1, []rune{0, 1, '\t', '\n', 0x1b, 0x1f, 0x7f, 0x80, 0x9b, 0x9f}},
		{0, []rune{0x300, 0x301, 0x36f, 0x483, 0x489, 0x591, 0x5bd, 0x610, 0x61a, 0x64b, 0x65f, 0x200b, 0x200d, 0x200f, 0x20d0, 0x20f0, 0xfe00, 0xfe0f, 0xfe20, 0xfe2f}},
		{2, []rune{0x1100, 0x115f, 0x2e80, 0x303e, 0x3041, 0x33ff, 0x3400, 0x4dbf, 0x4e00, 0x9fff, 0xa000, 0xa4cf, 0xac00, 0xd7a3, 0xf900, 0xfaff, 0xfe30, 0xfe6f, 0xff00, 0xff60, 0xffe0, 0xffe6, 0x1f300, 0x1f600, 0x1f64f, 0x1f900, 0x1f9ff, 0x20000, 0x3fffd}},
		{1, []rune{' ', 'a', '~', 0xa0, 0xad, 0x2ff, 0x370, 0x482, 0x48a, 0x590, 0x5be, 0x60f, 0x61b, 0x64a, 0x660, 0x10ff, 0x1160, 0x200a, 0x2010, 0x20cf, 0x20f1, 0x2500, 0x2e7f, 0x303f, 0x3040, 0x4dc0, 0x4dff, 0xa4d0, 0xabff, 0xd7a4, 0xd800, 0xdfff, 0xf8ff, 0xfb00, 0xfdff, 0xfe10, 0xfe1f, 0xfe70, 0xfeff, 0xff61, 0xffdf, 0xffe7, 0xfffd, 0x1f2ff, 0x1f650, 0x1f8ff, 0x1fa00, 0x1ffff, 0x3fffe, 0x3ffff, 0xe0100, 0x10fffe, last}},
		{-1, noRunes()},
	} {
		for _, r := range x.runes {
			if got := wide.Width(r); got != x.want {
				t.Errorf("Width(%x) = %d, want %d", r, got, x.want)
			}
		}
	}
}

// P3.1: Width, of each rune there is.
func TestAllWidths(t *testing.T) {
	for r := rune(0); r <= last; r++ {
		if got := wide.Width(r); got != known[r] {
			t.Fatalf("Width(%x) = %d, want %d", r, got, known[r])
		}
	}
}

// P3.1: Width, far outside: of what has a rune's lower bits, too.
func TestWidthOutside(t *testing.T) {
	for at := int64(math.MinInt32); at <= math.MaxInt32; at += 4093 {
		if r := rune(at); wide.Width(r) != wordsWidth(r) {
			t.Fatalf("Width(%x) = %d", r, wide.Width(r))
		}
	}
	for high := int32(1); high < 1<<10; high++ {
		for _, r := range []rune{'a', 0x301, 0x4e00, 0x1b} {
			if x := high<<21 | r; wide.Width(x) != -1 {
				t.Fatalf("Width(%x) = %d", x, wide.Width(x))
			}
		}
	}
}

// P3.1: Text.
func TestText(t *testing.T) {
	for _, x := range []struct {
		s    []rune
		want int
	}{
		{nil, 0},
		{[]rune{}, 0},
		{[]rune{'a', 0x4e00, 0x301}, 3},
		{[]rune{'a'}, 1},
		{[]rune{0x4e00}, 2},
		{[]rune{0x301}, 0},
		{[]rune{0x1b}, 0},
		{[]rune{0, '\n', 0x7f, 0x9f}, 0},
		{[]rune{'a', '\n', 'b', 0x9f, 0x1f600}, 4},
		{[]rune{0x1b, 0x4e00, 0x301, 0x301, 0x7f, 'a'}, 3},
		// What is no rune takes no cells, as a control.
		{noRunes(), 0},
		{[]rune{-1, 'a', last + 1, 0x4e00}, 3},
		{slices.Repeat([]rune{0x3fffd}, 100000), 200000},
		{slices.Repeat([]rune{0x9f, 'a'}, 100000), 100000},
	} {
		if got := wide.Text(x.s); got != x.want {
			t.Errorf("Text(%x) = %d, want %d", x.s[:min(9, len(x.s))], got, x.want)
		}
	}
}

// P3.1: Text, of one and of two runes at all bounds.
func TestTextOfEdges(t *testing.T) {
	for _, a := range edges() {
		if got := wide.Text([]rune{a}); got != max(0, wordsWidth(a)) {
			t.Fatalf("Text(%x) = %d", a, got)
		}
		for _, b := range edges() {
			if got := wide.Text([]rune{a, b}); got != wordsText([]rune{a, b}) {
				t.Fatalf("Text(%x, %x) = %d", a, b, got)
			}
		}
	}
}

// P3.1: Fit.
func TestFit(t *testing.T) {
	mixed := []rune{0x301, 'a', 0x4e00, 0x301, 0x1b, 'b'} // 0, 1, 2, 0, 0, 1
	for _, x := range []struct {
		s    []rune
		n    int
		want int
	}{
		{nil, 0, 0},
		{nil, 9, 0},
		{nil, -1, 0},
		{mixed, math.MinInt, 0},
		{mixed, -2, 0},
		{mixed, -1, 0},
		{mixed, 0, 1},
		{mixed, 1, 2},
		{mixed, 2, 2},
		{mixed, 3, 5}, // what takes none goes along
		{mixed, 4, 6},
		{mixed, 5, 6},
		{mixed, math.MaxInt, 6},
		{[]rune{0x4e00, 'a'}, 1, 0}, // no half of a wide one, and nothing behind it
		{[]rune{'a', 0x4e00, 'b'}, 2, 1},
		{[]rune{'a', 'b'}, 1, 1},
		// Below 0 even what takes none doesn't fit.
		{[]rune{0x301}, -1, 0},
		{[]rune{0x1b}, -1, 0},
		{[]rune{0x301}, 0, 1},
		{[]rune{0x1b, '\n', 0x9f}, 0, 3},
		{[]rune{0x1b, 'a', '\n', 0x4e00, 0x7f}, 1, 3},
		// What is no rune takes no cells, as a control: it neither fits below 0 nor makes room.
		{noRunes(), -1, 0},
		{noRunes(), math.MinInt, 0},
		{noRunes(), 0, len(noRunes())},
		{[]rune{-1, 'a', 'b'}, 1, 2},
		{[]rune{'a', last + 1, 'b'}, 1, 2},
		{slices.Repeat([]rune{0x4e00}, 100000), 99999, 49999},
	} {
		if got := wide.Fit(x.s, x.n); got != x.want {
			t.Errorf("Fit(%x, %d) = %d, want %d", x.s[:min(9, len(x.s))], x.n, got, x.want)
		}
	}
}

// checkFit holds Fit against the words: what fits takes at most n cells, one rune more would take more; below 0 nothing fits.
func checkFit(t *testing.T, s []rune, n int) {
	t.Helper()
	got := wide.Fit(s, n)
	if got < 0 || got > len(s) {
		t.Fatalf("Fit(%x, %d) = %d", s, n, got)
	}
	if n < 0 && got != 0 || n >= 0 && wordsText(s[:got]) > n {
		t.Fatalf("Fit(%x, %d) = %d: that takes more", s, n, got)
	}
	if got < len(s) && wordsText(s[:got+1]) <= n {
		t.Fatalf("Fit(%x, %d) = %d: one more would fit", s, n, got)
	}
}

// P3.2: two runes at all bounds.
func TestFitOfEdges(t *testing.T) {
	for _, a := range edges() {
		for _, b := range edges() {
			for n := -2; n <= 5; n++ {
				checkFit(t, []rune{a, b}, n)
			}
		}
	}
}

// anyRunes is a list of runes of any kind.
func anyRunes(c *rand.Rand, l []rune) []rune {
	s := make([]rune, c.IntN(30))
	for i := range s {
		switch c.IntN(4) {
		case 0:
			s[i] = rune(c.Uint32())
		case 1:
			s[i] = rune(c.IntN(1 << (1 + c.IntN(21))))
		default:
			s[i] = l[c.IntN(len(l))]
		}
	}
	return s
}

// P3.1, P3.2: runes of any kind, in any order.
func TestAnyRunes(t *testing.T) {
	c, l := rand.New(rand.NewPCG(3, 1)), edges()
	for range 20000 {
		s := anyRunes(c, l)
		if got := wide.Text(s); got != wordsText(s) {
			t.Fatalf("Text(%x) = %d, want %d", s, got, wordsText(s))
		}
		for _, n := range []int{math.MinInt, -1, 0, 1, c.IntN(40), wordsText(s) - 1, wordsText(s), math.MaxInt} {
			checkFit(t, s, n)
		}
	}
}

// R4: what is handed in isn't changed, and what lies behind it isn't read.
func TestMemory(t *testing.T) {
	room := []rune{'x', 'a', 0x4e00, 0x301, 'y'}
	was := slices.Clone(room)
	s := room[1:3]
	if got := wide.Text(s); got != 3 {
		t.Errorf("Text(%x) = %d", s, got)
	}
	if got := wide.Fit(s, 9); got != 2 {
		t.Errorf("Fit(%x, 9) = %d", s, got)
	}
	if !slices.Equal(room, was) {
		t.Errorf("what was handed in is changed: %x", room)
	}
	s[1] = 'b'
	if wide.Text(s) != 2 || wide.Fit(s, 1) != 1 {
		t.Error("what was handed in is kept")
	}
}

// R6: the same call has the same answer, whatever was asked between.
func TestOneAnswer(t *testing.T) {
	c, l := rand.New(rand.NewPCG(3, 2)), edges()
	for range 1000 {
		s, n := anyRunes(c, l), c.IntN(40)-2
		text, fit := wide.Text(s), wide.Fit(s, n)
		other := anyRunes(c, l)
		wide.Text(other)
		wide.Fit(other, c.IntN(40))
		if wide.Text(s) != text || wide.Fit(s, n) != fit {
			t.Fatalf("%x has two answers", s)
		}
	}
}

// P1, R1: every call ends and none panics, at any argument.
func FuzzAll(f *testing.F) {
	f.Add(int32('a'), int32(0x4e00), int32(0x301), 3, 3)
	f.Add(int32(-1), int32(last+1), int32(0x1b), 9, -1)
	f.Add(int32(math.MinInt32), int32(math.MaxInt32), int32(0), 0, math.MinInt)
	f.Add(int32(0x3fffd), int32(0xfe2f), int32(0x9f), 64, math.MaxInt)
	f.Fuzz(func(t *testing.T, a, b, c int32, size, n int) {
		l := []rune{a, b, c}
		for _, r := range l {
			if wide.Width(r) != wordsWidth(r) {
				t.Fatalf("Width(%x) = %d", r, wide.Width(r))
			}
		}
		s := make([]rune, max(0, min(size, 100)))
		for i := range s {
			s[i] = l[i%3]
		}
		if wide.Text(s) != wordsText(s) {
			t.Fatalf("Text(%x) = %d", s, wide.Text(s))
		}
		checkFit(t, s, n)
	})
}

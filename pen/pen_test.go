package pen_test

import (
	"math"
	"math/rand/v2"
	"slices"
	"testing"

	"betony/api"
	"betony/pen"
)

const (
	low  = 1 << 24   // the first colour that is told by its parts
	high = 1<<25 - 1 // the last one
	all  = 255       // all flags
)

// plain is the pen without anything.
var plain api.Pen

// numbersToSet are the numbers that set flags, rising, each with its own.
var numbersToSet = [][2]int{{1, 1}, {2, 2}, {3, 4}, {4, 8}, {5, 16}, {7, 32}, {8, 64}, {9, 128}}

// numbersToGo are the numbers by which flags go.
var numbersToGo = [][2]int{{22, 1 | 2}, {23, 4}, {24, 8}, {25, 16}, {27, 32}, {28, 64}, {29, 128}}

// valueOf is what l has beside n; false: it hasn't n.
func valueOf(l [][2]int, n int) (int, bool) {
	for _, x := range l {
		if x[0] == n {
			return x[1], true
		}
	}
	return 0, false
}

// bounds are numbers at all bounds, on either side.
func bounds() []int {
	return []int{math.MinInt, math.MinInt + 1, -1 << 32, -high, -low, -257, -256, -1, 0, 1, 15, 16, 17, 231, 232, 233, 254, 255, 256, 257, 258, 1<<16 - 1, 1 << 16, low - 1, low, low + 1, high - 1, high, high + 1, 1<<26 - 1, 1 << 32, 1<<32 + 1, 1<<32 + low, math.MaxInt - 1, math.MaxInt}
}

// wordsColour tells by the words whether c is a colour.
func wordsColour(c int) bool {
	if c >= 0 && c <= 256 {
		return true
	}
	return c >= low && c-low < 256*256*256
}

// wordsRight tells by the words whether p is right.
func wordsRight(p api.Pen) bool {
	return wordsColour(p.Fg) && wordsColour(p.Bg) && p.Flags >= 0 && p.Flags <= all
}

// P5.1: Right.
func TestRight(t *testing.T) {
	for _, x := range []struct {
		p    api.Pen
		want bool
	}{
		{plain, true},
		{api.Pen{Fg: 1, Bg: 256, Flags: 255}, true},
		{api.Pen{Fg: 256, Bg: 1, Flags: 1}, true},
		{api.Pen{Fg: low, Bg: high}, true},
		{api.Pen{Fg: high, Bg: low}, true},
		{api.Pen{Fg: 1<<24 + 1<<16 + 2<<8 + 3, Flags: 128}, true},
		{api.Pen{Fg: -1}, false},
		{api.Pen{Bg: -1}, false},
		{api.Pen{Flags: -1}, false},
		{api.Pen{Fg: 257}, false},
		{api.Pen{Bg: 257}, false},
		{api.Pen{Flags: 256}, false},
		{api.Pen{Fg: low - 1}, false},
		{api.Pen{Bg: low - 1}, false},
		{api.Pen{Fg: high + 1}, false},
		{api.Pen{Bg: high + 1}, false},
		{api.Pen{Fg: 1<<32 + low}, false},
		{api.Pen{Bg: 1<<32 + 1}, false},
		{api.Pen{Flags: 1 << 32}, false},
		{api.Pen{Fg: math.MinInt, Bg: math.MaxInt, Flags: math.MinInt}, false},
		{api.Pen{Flags: math.MaxInt}, false},
	} {
		if got := pen.Right(x.p); got != x.want {
			t.Errorf("Right(%v) = %v", x.p, got)
		}
	}
}

// P5.1: Right, of numbers at all bounds.
func TestRightBounds(t *testing.T) {
	for _, fg := range bounds() {
		for _, bg := range bounds() {
			for _, flags := range bounds() {
				if p := (api.Pen{Fg: fg, Bg: bg, Flags: flags}); pen.Right(p) != wordsRight(p) {
					t.Fatalf("Right(%v) = %v", p, pen.Right(p))
				}
			}
		}
	}
}

// P5.1: Apply, ordinary parameters.
func TestApply(t *testing.T) {
	full := api.Pen{Fg: 5, Bg: low, Flags: all}
	for _, x := range []struct {
		p    api.Pen
		l    []int
		want api.Pen
	}{
		{plain, []int{1, 38, 5, 9}, api.Pen{Fg: 10, Flags: api.Bold}},
		{full, nil, plain},
		{full, []int{}, plain},
		{full, []int{0}, plain},
		{full, []int{0, 4}, api.Pen{Flags: api.Under}},
		{full, []int{4, 0}, plain},
		{plain, []int{1, 2, 3, 4, 5, 7, 8, 9}, api.Pen{Flags: all}},
		{plain, []int{9, 8, 7, 5, 4, 3, 2, 1}, api.Pen{Flags: all}},
		{plain, []int{1, 1}, api.Pen{Flags: api.Bold}},
		{plain, []int{5}, api.Pen{Flags: api.Blink}},
		{plain, []int{6}, plain},
		{plain, []int{7}, api.Pen{Flags: api.Inverse}},
		{full, []int{22}, api.Pen{Fg: 5, Bg: low, Flags: all &^ (api.Bold | api.Dim)}},
		{full, []int{23, 24}, api.Pen{Fg: 5, Bg: low, Flags: all &^ (api.Italic | api.Under)}},
		{full, []int{25, 27, 28, 29}, api.Pen{Fg: 5, Bg: low, Flags: api.Bold | api.Dim | api.Italic | api.Under}},
		{full, []int{20, 21, 26, 10, 19}, full},
		{plain, []int{22, 23, 24, 25, 26, 27, 28, 29}, plain},
		{full, []int{30}, api.Pen{Fg: 1, Bg: low, Flags: all}},
		{full, []int{37}, api.Pen{Fg: 8, Bg: low, Flags: all}},
		{full, []int{40}, api.Pen{Fg: 5, Bg: 1, Flags: all}},
		{full, []int{47}, api.Pen{Fg: 5, Bg: 8, Flags: all}},
		{full, []int{90}, api.Pen{Fg: 9, Bg: low, Flags: all}},
		{full, []int{97}, api.Pen{Fg: 16, Bg: low, Flags: all}},
		{full, []int{100}, api.Pen{Fg: 5, Bg: 9, Flags: all}},
		{full, []int{107}, api.Pen{Fg: 5, Bg: 16, Flags: all}},
		{full, []int{39}, api.Pen{Bg: low, Flags: all}},
		{full, []int{49}, api.Pen{Fg: 5, Flags: all}},
		{full, []int{89, 98, 99, 108, 50, 58, 59, -1, math.MinInt, math.MaxInt}, full},
		{plain, []int{31, 42, 33}, api.Pen{Fg: 4, Bg: 3}},
	} {
		if got := pen.Apply(x.p, x.l); got != x.want {
			t.Errorf("Apply(%v, %v) = %v, want %v", x.p, x.l, got, x.want)
		}
	}
}

// P5.1: Apply, colours that are told behind 38 and 48.
func TestApplyColours(t *testing.T) {
	old := api.Pen{Fg: 5, Bg: 6, Flags: api.Dim}
	fg := func(c int) api.Pen { return api.Pen{Fg: c, Bg: 6, Flags: api.Dim} }
	bg := func(c int) api.Pen { return api.Pen{Fg: 5, Bg: c, Flags: api.Dim} }
	for _, x := range []struct {
		l    []int
		want api.Pen
	}{
		{[]int{38, 5, 0}, fg(1)},
		{[]int{38, 5, 255}, fg(256)},
		{[]int{48, 5, 0}, bg(1)},
		{[]int{48, 5, 255}, bg(256)},
		{[]int{38, 2, 0, 0, 0}, fg(low)},
		{[]int{38, 2, 255, 255, 255}, fg(high)},
		{[]int{38, 2, 1, 2, 3}, fg(low + 1<<16 + 2<<8 + 3)},
		{[]int{48, 2, 255, 0, 1}, bg(low + 255<<16 + 1)},
		{[]int{48, 2, 0, 255, 0}, bg(low + 255<<8)},
		{[]int{38, 5, 1, 48, 2, 0, 0, 9}, api.Pen{Fg: 2, Bg: low + 9, Flags: api.Dim}},
		// What stands behind counts.
		{[]int{38, 5, 7, 1}, api.Pen{Fg: 8, Bg: 6, Flags: api.Dim | api.Bold}},
		{[]int{38, 5, 7, 0}, plain},
		{[]int{48, 2, 9, 9, 9, 22}, api.Pen{Fg: 5, Bg: low + 9<<16 + 9<<8 + 9}},
		{[]int{38, 5, 38, 5}, api.Pen{Fg: 39, Bg: 6, Flags: api.Dim | api.Blink}},
		// A number is missing.
		{[]int{38}, old},
		{[]int{48}, old},
		{[]int{38, 5}, old},
		{[]int{48, 2}, old},
		{[]int{38, 2, 1}, old},
		{[]int{38, 2, 1, 2}, old},
		{[]int{1, 38, 2, 4, 4}, api.Pen{Fg: 5, Bg: 6, Flags: api.Dim | api.Bold}},
		// A number is outside: all that is left counts for nothing, what stood ahead counts.
		{[]int{38, 5, 256, 1}, old},
		{[]int{38, 5, -1, 1}, old},
		{[]int{4, 48, 5, 256, 1}, api.Pen{Fg: 5, Bg: 6, Flags: api.Dim | api.Under}},
		{[]int{48, 5, math.MinInt, 1}, old},
		{[]int{48, 5, math.MaxInt, 0}, old},
		{[]int{38, 2, 256, 1, 1, 1}, old},
		{[]int{38, 2, 1, 256, 1, 1}, old},
		{[]int{38, 2, 1, 1, 256, 1}, old},
		{[]int{38, 2, -1, 1, 1, 1}, old},
		{[]int{48, 2, 1, -1, 1, 1}, old},
		{[]int{48, 2, 1, 1, -1, 1}, old},
		{[]int{48, 2, 1, 1, 1<<32 + 1, 1}, old},
		{[]int{38, 5, 256, 38, 5, 1, 0}, old},
		// Another number behind.
		{[]int{38, 0}, old},
		{[]int{38, 1, 1, 1}, old},
		{[]int{48, 3, 1, 1, 1, 1}, old},
		{[]int{48, 4, 1, 1}, old},
		{[]int{38, 6, 1, 1}, old},
		{[]int{38, -1, 1, 1}, old},
		{[]int{38, 38, 5, 1}, old},
		{[]int{38, math.MinInt, 1}, old},
		{[]int{38, math.MaxInt, 1}, old},
		{[]int{38, 1<<32 + 5, 1}, old},
	} {
		if got := pen.Apply(old, x.l); got != x.want {
			t.Errorf("Apply(%v, %v) = %v, want %v", old, x.l, got, x.want)
		}
	}
}

// wordsTold is by the words the colour behind 38 or 48, and what is left behind it; false: all that is left counts for nothing.
func wordsTold(l []int) (c int, left []int, ok bool) {
	count := 0
	switch {
	case len(l) == 0:
		return 0, nil, false
	case l[0] == 5:
		count = 1
	case l[0] == 2:
		count = 3
	default:
		return 0, nil, false
	}
	if len(l)-1 < count {
		return 0, nil, false
	}
	for _, n := range l[1 : 1+count] {
		if n < 0 || n > 255 {
			return 0, nil, false
		}
		c = c*256 + n
	}
	if count == 3 {
		return low + c, l[4:], true
	}
	return 1 + c, l[2:], true
}

// wordsPalette is by the words the colour that a number alone sets, of Fg, or of Bg.
func wordsPalette(n int, bg bool) (c int, ok bool) {
	first := [3]int{30, 39, 90}
	if bg {
		first = [3]int{40, 49, 100}
	}
	for i := range 8 {
		switch n {
		case first[0] + i:
			return 1 + i, true
		case first[2] + i:
			return 1 + 8 + i, true
		}
	}
	return 0, n == first[1]
}

// wordsApply is by the words the pen behind l.
func wordsApply(p api.Pen, l []int) api.Pen {
	if len(l) == 0 {
		l = []int{0}
	}
	for len(l) > 0 {
		n := l[0]
		l = l[1:]
		if n == 38 || n == 48 {
			c, left, ok := wordsTold(l)
			if !ok {
				return p
			}
			l = left
			if n == 38 {
				p.Fg = c
			} else {
				p.Bg = c
			}
			continue
		}
		if n == 0 {
			p = plain
		}
		if f, ok := valueOf(numbersToSet, n); ok {
			p.Flags |= f
		}
		if f, ok := valueOf(numbersToGo, n); ok {
			p.Flags &^= f
		}
		if c, ok := wordsPalette(n, false); ok {
			p.Fg = c
		}
		if c, ok := wordsPalette(n, true); ok {
			p.Bg = c
		}
	}
	return p
}

// somePens are pens of any kind, right or not.
func somePens() []api.Pen {
	l := []api.Pen{plain, {Fg: 5, Bg: 6}, {Fg: 256, Bg: low, Flags: all}, {Fg: high, Bg: 1, Flags: 0x55}, {Bg: 7, Flags: 0xaa}}
	return append(l, api.Pen{Fg: -1, Bg: 257, Flags: -1}, api.Pen{Fg: high + 1, Bg: math.MinInt, Flags: 1 << 40}, api.Pen{Fg: math.MaxInt, Flags: math.MinInt})
}

// P5.1: Apply, each number alone, and behind another one.
func TestApplyEachNumber(t *testing.T) {
	l := bounds()
	for n := -300; n <= 600; n++ {
		l = append(l, n)
	}
	for _, p := range somePens() {
		for _, n := range l {
			checkApply(t, p, []int{n})
			checkApply(t, p, []int{n, 3})
			checkApply(t, p, []int{3, n})
			checkApply(t, p, []int{38, n, 1, 3, 9, 4})
			checkApply(t, p, []int{48, 5, n, 3})
			checkApply(t, p, []int{48, 2, 1, 2, n, 3})
			checkApply(t, p, []int{38, 2, 1, n, 2, 3})
			checkApply(t, p, []int{38, 2, n, 1, 2, 3})
		}
	}
}

// checkApply holds Apply against the words; what is right stays right (P5.3).
func checkApply(t *testing.T, p api.Pen, l []int) {
	t.Helper()
	got := pen.Apply(p, l)
	if want := wordsApply(p, l); got != want {
		t.Fatalf("Apply(%v, %v) = %v, want %v", p, l, got, want)
	}
	if wordsRight(p) && (!wordsRight(got) || !pen.Right(got)) {
		t.Fatalf("Apply(%v, %v) = %v, which isn't right", p, l, got)
	}
}

// P5.1, P5.3: Apply, all short lists of the numbers that others hang on.
func TestApplyShortLists(t *testing.T) {
	signs := []int{-1, 0, 1, 2, 5, 38, 48, 255, 256}
	p := api.Pen{Fg: 5, Bg: low + 7, Flags: api.Dim | api.Hidden}
	for size := range 6 {
		l := make([]int, size)
		everyList(signs, l, 0, func() { checkApply(t, p, l) })
	}
}

// everyList calls f for each list of signs, from place at on, in l.
func everyList(signs, l []int, at int, f func()) {
	if at == len(l) {
		f()
		return
	}
	for _, n := range signs {
		l[at] = n
		everyList(signs, l, at+1, f)
	}
}

// anyList is a list of numbers of any kind, many of them parameters.
func anyList(c *rand.Rand) []int {
	l, b := make([]int, c.IntN(24)), bounds()
	for i := range l {
		switch c.IntN(8) {
		case 0:
			l[i] = b[c.IntN(len(b))]
		case 1:
			l[i] = 38 + 10*c.IntN(2)
		case 2:
			l[i] = 2 + 3*c.IntN(2)
		case 3:
			l[i] = c.IntN(258) - 1
		default:
			l[i] = c.IntN(110)
		}
	}
	return l
}

// anyColour is a right colour.
func anyColour(c *rand.Rand) int {
	switch c.IntN(3) {
	case 0:
		return c.IntN(257)
	case 1:
		return low + c.IntN(low)
	default:
		return 0
	}
}

// P5.1, P5.3: Apply, lists of any kind.
func TestApplyAny(t *testing.T) {
	c := rand.New(rand.NewPCG(5, 1))
	pens := somePens()
	for range 200000 {
		p := api.Pen{Fg: anyColour(c), Bg: anyColour(c), Flags: c.IntN(all + 1)}
		if c.IntN(8) == 0 {
			p = pens[c.IntN(len(pens))]
		}
		checkApply(t, p, anyList(c))
	}
}

// P5.1: Apply, a list that is long.
func TestApplyLong(t *testing.T) {
	l := slices.Repeat([]int{38, 5, 7, 48, 2, 1, 2, 3, 0, 9, 6}, 20000)
	if got, want := pen.Apply(plain, l), (api.Pen{Flags: api.Strike}); got != want {
		t.Errorf("Apply of a long list is %v, want %v", got, want)
	}
	if got, want := pen.Apply(plain, append(l, 31)), (api.Pen{Fg: 2, Flags: api.Strike}); got != want {
		t.Errorf("Apply of a long list is %v, want %v", got, want)
	}
}

// P5.1: Least.
func TestLeast(t *testing.T) {
	for _, x := range []struct {
		p    api.Pen
		want []int
	}{
		{plain, []int{0}},
		{api.Pen{Flags: api.Bold}, []int{0, 1}},
		{api.Pen{Flags: api.Inverse}, []int{0, 7}},
		{api.Pen{Flags: all}, []int{0, 1, 2, 3, 4, 5, 7, 8, 9}},
		{api.Pen{Flags: api.Strike | api.Dim | api.Blink}, []int{0, 2, 5, 9}},
		{api.Pen{Fg: 1}, []int{0, 38, 5, 0}},
		{api.Pen{Fg: 16}, []int{0, 38, 5, 15}},
		{api.Pen{Fg: 256}, []int{0, 38, 5, 255}},
		{api.Pen{Bg: 1}, []int{0, 48, 5, 0}},
		{api.Pen{Bg: 256}, []int{0, 48, 5, 255}},
		{api.Pen{Fg: low}, []int{0, 38, 2, 0, 0, 0}},
		{api.Pen{Bg: high}, []int{0, 48, 2, 255, 255, 255}},
		{api.Pen{Fg: low + 1<<16 + 2<<8 + 3, Bg: 9, Flags: api.Hidden}, []int{0, 8, 38, 2, 1, 2, 3, 48, 5, 8}},
		{api.Pen{Fg: 3, Bg: low + 255<<8, Flags: api.Bold | api.Italic | api.Under}, []int{0, 1, 3, 4, 38, 5, 2, 48, 2, 0, 255, 0}},
		// Not right.
		{api.Pen{Fg: -1}, nil},
		{api.Pen{Fg: 257, Flags: api.Bold}, nil},
		{api.Pen{Fg: 1, Bg: low - 1}, nil},
		{api.Pen{Bg: high + 1}, nil},
		{api.Pen{Fg: 1, Bg: 1, Flags: 256}, nil},
		{api.Pen{Flags: -1}, nil},
		{api.Pen{Flags: math.MinInt}, nil},
		{api.Pen{Fg: math.MaxInt}, nil},
		{api.Pen{Bg: math.MinInt}, nil},
	} {
		if got := pen.Least(x.p); !slices.Equal(got, x.want) {
			t.Errorf("Least(%v) = %v, want %v", x.p, got, x.want)
		}
	}
}

// wordsLeast are by the words the parameters that make p.
func wordsLeast(p api.Pen) []int {
	if !wordsRight(p) {
		return nil
	}
	l := []int{0}
	for _, x := range numbersToSet {
		if p.Flags/x[1]%2 == 1 {
			l = append(l, x[0])
		}
	}
	for i, c := range [2]int{p.Fg, p.Bg} {
		if c >= low {
			l = append(l, 38+10*i, 2, c/65536%256, c/256%256, c%256)
		} else if c > 0 {
			l = append(l, 38+10*i, 5, c-1)
		}
	}
	return l
}

// checkLeast holds Least against the words, and P5.3: it makes p of any pen, though it begins from another one.
func checkLeast(t *testing.T, p, other api.Pen) {
	t.Helper()
	l := pen.Least(p)
	if want := wordsLeast(p); !slices.Equal(l, want) {
		t.Fatalf("Least(%v) = %v, want %v", p, l, want)
	}
	if !wordsRight(p) {
		return
	}
	for _, q := range []api.Pen{plain, other, p} {
		if got := pen.Apply(q, l); got != p {
			t.Fatalf("Apply(%v, Least(%v)) = %v", q, p, got)
		}
	}
}

// P5.1, P5.3: Least and Apply, all flags, all of the palette, and colours by any one part.
func TestLeastEach(t *testing.T) {
	other := api.Pen{Fg: 9, Bg: low + 77, Flags: 0x5a}
	for flags := range all + 1 {
		for _, c := range []int{0, 1, 256, low, high} {
			checkLeast(t, api.Pen{Fg: c, Flags: flags}, other)
			checkLeast(t, api.Pen{Bg: c, Flags: flags}, other)
		}
	}
	for c := range 257 {
		checkLeast(t, api.Pen{Fg: c, Bg: 256 - c, Flags: c % 256}, other)
	}
	for part := range 256 {
		for _, at := range []int{0, 8, 16} {
			checkLeast(t, api.Pen{Fg: low + part<<at}, other)
			checkLeast(t, api.Pen{Fg: 4, Bg: high - part<<at}, other)
		}
	}
}

// P5.1, P5.3: Least and Apply, pens of any kind.
func TestLeastAny(t *testing.T) {
	c := rand.New(rand.NewPCG(5, 2))
	for range 100000 {
		p := api.Pen{Fg: anyColour(c), Bg: anyColour(c), Flags: c.IntN(all + 1)}
		checkLeast(t, p, api.Pen{Fg: anyColour(c), Bg: anyColour(c), Flags: c.IntN(all + 1)})
	}
	for _, fg := range bounds() {
		for _, bg := range bounds() {
			for _, flags := range bounds() {
				checkLeast(t, api.Pen{Fg: fg, Bg: bg, Flags: flags}, plain)
			}
		}
	}
}

// rgb are a colour's parts.
type rgb [3]int

// look is what Look answers, in one.
func look(c int) (rgb, bool) {
	r, g, b, ok := pen.Look(c)
	return rgb{r, g, b}, ok
}

// P5.2: Look.
func TestLook(t *testing.T) {
	for c, want := range map[int]rgb{
		1: {}, 2: {170, 0, 0}, 3: {0, 170, 0}, 4: {170, 170, 0}, 5: {0, 0, 170}, 6: {170, 0, 170}, 7: {0, 170, 170}, 8: {170, 170, 170},
		9: {85, 85, 85}, 10: {255, 85, 85}, 11: {85, 255, 85}, 12: {255, 255, 85}, 13: {85, 85, 255}, 14: {255, 85, 255}, 15: {85, 255, 255}, 16: {255, 255, 255},
		17: {}, 18: {0, 0, 51}, 22: {0, 0, 255}, 23: {0, 51, 0}, 52: {0, 255, 255}, 53: {51, 0, 0}, 232: {255, 255, 255}, 16 + 1 + 36*2 + 6*3 + 4: {102, 153, 204},
		233: {8, 8, 8}, 234: {18, 18, 18}, 256: {238, 238, 238},
		low: {}, low + 1: {0, 0, 1}, low + 256: {0, 1, 0}, low + 65536: {1, 0, 0}, high: {255, 255, 255}, low + 1<<16 + 2<<8 + 3: {1, 2, 3},
	} {
		if got, ok := look(c); got != want || !ok {
			t.Errorf("Look(%d) = %v, %v, want %v", c, got, ok, want)
		}
	}
	for _, c := range []int{0, -1, -2, 257, 258, low - 1, high + 1, high + 2, -low, 1<<32 + 1, 1<<32 + low, math.MinInt, math.MinInt + 1, math.MaxInt} {
		if got, ok := look(c); ok || got != (rgb{}) {
			t.Errorf("Look(%d) = %v, %v", c, got, ok)
		}
	}
}

// P5.2: Look, all of the palette, made from the words number by number.
func TestLookPalette(t *testing.T) {
	var l []rgb
	for _, more := range []int{0, 85} {
		for _, b := range []int{0, 170} {
			for _, g := range []int{0, 170} {
				for _, r := range []int{0, 170} {
					l = append(l, rgb{r + more, g + more, b + more})
				}
			}
		}
	}
	for x := range 6 {
		for y := range 6 {
			for z := range 6 {
				l = append(l, rgb{51 * x, 51 * y, 51 * z})
			}
		}
	}
	for grey := 8; len(l) < 256; grey += 10 {
		l = append(l, rgb{grey, grey, grey})
	}
	for n, want := range l {
		if got, ok := look(1 + n); got != want || !ok {
			t.Errorf("Look(%d) = %v, %v, want %v", 1+n, got, ok, want)
		}
	}
}

// P5.2: Look, colours by their parts, and all numbers about them.
func TestLookParts(t *testing.T) {
	for r := 0; r < 256; r += 5 {
		for g := range 256 {
			for b := 0; b < 256; b += 3 {
				if got, ok := look(low + r<<16 + g<<8 + b); got != (rgb{r, g, b}) || !ok {
					t.Fatalf("Look of %d, %d, %d is %v, %v", r, g, b, got, ok)
				}
			}
		}
	}
	for _, c := range append(bounds(), -300, -17, -16, 300) {
		got, ok := look(c)
		if ok != (wordsColour(c) && c != 0) || !ok && got != (rgb{}) {
			t.Errorf("Look(%d) = %v, %v", c, got, ok)
		}
	}
}

// R4: what is handed in isn't changed nor kept, what lies behind it isn't read, and what is answered may be written over.
func TestMemory(t *testing.T) {
	room := []int{1, 38, 5, 7, 2, 9}
	was := slices.Clone(room)
	for size, want := range map[int]api.Pen{0: {}, 1: {Flags: 1}, 2: {Flags: 1}, 3: {Flags: 1}, 4: {Fg: 8, Flags: 1}} {
		if got := pen.Apply(plain, room[:size]); got != want {
			t.Errorf("Apply(%v) = %v, want %v", room[:size], got, want)
		}
	}
	parts := []int{48, 2, 1, 2, 3, 4}
	for size := range 5 {
		if got := pen.Apply(plain, parts[:size]); got != plain {
			t.Errorf("Apply(%v) = %v", parts[:size], got)
		}
	}
	if !slices.Equal(room, was) || !slices.Equal(parts, []int{48, 2, 1, 2, 3, 4}) {
		t.Errorf("what was handed in is changed: %v, %v", room, parts)
	}
	p := api.Pen{Fg: 3, Bg: low, Flags: 3}
	first, second := pen.Least(p), pen.Least(p)
	clear(first)
	_ = append(first[:1], 7, 7, 7, 7)
	if want := wordsLeast(p); !slices.Equal(second, want) || !slices.Equal(pen.Least(p), want) {
		t.Errorf("Least(%v) is changed: %v", p, second)
	}
}

// R6: the same call has the same answer, whatever was asked between.
func TestOneAnswer(t *testing.T) {
	c := rand.New(rand.NewPCG(5, 3))
	for range 2000 {
		p, l := api.Pen{Fg: anyColour(c), Bg: anyColour(c), Flags: c.IntN(all + 1)}, anyList(c)
		q, least := pen.Apply(p, l), pen.Least(p)
		fg, ok := look(p.Fg)
		other := pen.Apply(q, anyList(c))
		pen.Least(other)
		look(other.Bg)
		if pen.Apply(p, l) != q || !slices.Equal(pen.Least(p), least) {
			t.Fatalf("%v, %v have two answers", p, l)
		}
		if again, was := look(p.Fg); again != fg || was != ok {
			t.Fatalf("Look(%d) has two answers", p.Fg)
		}
	}
}

// P1, R1: every call ends and none panics, at any argument.
func FuzzAll(f *testing.F) {
	f.Add(0, 0, 0, 1, 38, 5, 9, 48, 2)
	f.Add(256, high, all, 38, 2, 255, 255, 255, 22)
	f.Add(-1, 257, 256, 48, 5, 256, 0, -1, 107)
	f.Add(math.MinInt, math.MaxInt, math.MinInt, math.MaxInt, math.MinInt, 38, 38, 48, 48)
	f.Fuzz(func(t *testing.T, fg, bg, flags, a, b, c, d, e, g int) {
		p, l := api.Pen{Fg: fg, Bg: bg, Flags: flags}, []int{a, b, c, d, e, g}
		if pen.Right(p) != wordsRight(p) {
			t.Fatalf("Right(%v) = %v", p, pen.Right(p))
		}
		for size := range len(l) + 1 {
			checkApply(t, p, l[:size])
		}
		checkLeast(t, p, api.Pen{Fg: a, Bg: b, Flags: c})
		if got, ok := look(fg); ok != (wordsColour(fg) && fg != 0) || !ok && got != (rgb{}) {
			t.Fatalf("Look(%d) = %v, %v", fg, got, ok)
		}
	})
}

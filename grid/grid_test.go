package grid_test

import (
	"math"
	"math/rand/v2"
	"slices"
	"testing"

	"betony/api"
	"betony/grid"
)

const (
	far  = 1 << 30
	most = 512 // columns, or rows
)

// none is the blank cell.
var none api.Cell

// at is a rectangle by its numbers.
func at(x, y, w, h int) api.Rect { return api.Rect{X: x, Y: y, W: w, H: h} }

// bounds are numbers at all bounds, on either side.
func bounds() []int {
	return []int{math.MinInt, math.MinInt + 1, -1 << 32, -far - 1, -far, -far + 1, -most - 1, -most, -1, 0, 1, 2, most - 1, most, most + 1, far - 1, far, far + 1, 1 << 32, math.MaxInt - 1, math.MaxInt}
}

// someCells are cells of any kind: halves of wide pairs, and such as are no runes or have no right pens, too.
func someCells() []api.Cell {
	l := []api.Cell{none, {R: 'a'}, {R: 0x4e00, P: api.Pen{Fg: 1}}, {R: -1, P: api.Pen{Fg: 1}}, {P: api.Pen{Bg: 1 << 24, Flags: api.Inverse}}}
	return append(l, api.Cell{R: math.MinInt32, P: api.Pen{Fg: -1, Bg: math.MinInt, Flags: math.MaxInt}}, api.Cell{R: math.MaxInt32, P: api.Pen{Fg: 257}}, api.Cell{R: 0xd800})
}

// numbered is a cell of its own for each n.
func numbered(n int) api.Cell {
	return api.Cell{R: rune(n + 1), P: api.Pen{Fg: n % 7, Bg: n % 5, Flags: n % 3}}
}

// place is where a cell is.
type place struct{ x, y int }

// words is a grid by the words: its cells by their places.
type words struct {
	w, h  int
	cells map[place]api.Cell
}

// wordsNew is a grid by the words, its cells blank.
func wordsNew(w, h int) words {
	m := words{w, h, map[place]api.Cell{}}
	for y := range h {
		for x := range w {
			m.cells[place{x, y}] = none
		}
	}
	return m
}

// wordsFar tells whether all are from -Far to Far.
func wordsFar(l ...int) bool {
	for _, n := range l {
		if n < -far || n > far {
			return false
		}
	}
	return true
}

// wordsRight tells whether r is right.
func wordsRight(r api.Rect) bool {
	return wordsFar(r.X, r.Y, r.W, r.H) && r.W >= 0 && r.H >= 0
}

// wordsIn tells whether a right r has p.
func wordsIn(r api.Rect, p place) bool {
	return p.x >= r.X && p.x < r.X+r.W && p.y >= r.Y && p.y < r.Y+r.H
}

// fill is Fill by the words.
func (m words) fill(r api.Rect, c api.Cell) int {
	n := 0
	if !wordsRight(r) {
		return 0
	}
	for p := range m.cells {
		if wordsIn(r, p) {
			m.cells[p] = c
			n++
		}
	}
	return n
}

// clone is another one.
func (m words) clone() words { return m.resize(m.w, m.h) }

// blit is Blit by the words: it asks for each place of to, which may be m itself, what comes there.
func (m words) blit(to words, r api.Rect, x, y int) int {
	n := 0
	if !wordsRight(r) || !wordsFar(x, y) {
		return 0
	}
	was := m.clone()
	for p := range to.cells {
		from := place{p.x - x + r.X, p.y - y + r.Y}
		if c, ok := was.cells[from]; ok && wordsIn(r, from) {
			to.cells[p] = c
			n++
		}
	}
	return n
}

// resize is Resize by the words.
func (m words) resize(w, h int) words {
	o := wordsNew(w, h)
	for p, c := range m.cells {
		if p.x < w && p.y < h {
			o.cells[p] = c
		}
	}
	return o
}

// pair is a grid of numbered cells, and the same by the words.
func pair(w, h int) (*grid.Grid, words) {
	g, m := grid.New(w, h), wordsNew(w, h)
	for y := range h {
		for x := range w {
			g.Set(x, y, numbered(y*w+x))
			m.cells[place{x, y}] = numbered(y*w + x)
		}
	}
	return g, m
}

// sameCells tells the first place where g isn't m.
func sameCells(g *grid.Grid, m words) (place, bool) {
	for y := range m.h {
		for x := range m.w {
			if g.At(x, y) != m.cells[place{x, y}] {
				return place{x, y}, false
			}
		}
	}
	return place{}, true
}

// check holds g against the words: its size, its cells by At, and by Row.
func check(t *testing.T, g *grid.Grid, m words) {
	t.Helper()
	if g == nil {
		t.Fatalf("no grid, want %d by %d", m.w, m.h)
	}
	if w, h := g.Size(); w != m.w || h != m.h {
		t.Fatalf("Size is %d, %d, want %d, %d", w, h, m.w, m.h)
	}
	if p, ok := sameCells(g, m); !ok {
		t.Fatalf("At(%d, %d) = %v, want %v", p.x, p.y, g.At(p.x, p.y), m.cells[p])
	}
	for y := range m.h {
		row := g.Row(y)
		if len(row) != m.w {
			t.Fatalf("Row(%d) has %d cells, want %d", y, len(row), m.w)
		}
		for x, c := range row {
			if c != m.cells[place{x, y}] {
				t.Fatalf("Row(%d) has %v at %d, want %v", y, c, x, m.cells[place{x, y}])
			}
		}
	}
}

// P6.1: New, its size at all bounds.
func TestNew(t *testing.T) {
	l := append(bounds(), 3, 4, 255, 256, 257, 65536)
	for _, w := range l {
		for _, h := range l {
			g := grid.New(w, h)
			if want := w >= 1 && w <= most && h >= 1 && h <= most; (g != nil) != want {
				t.Fatalf("New(%d, %d) = %v", w, h, g)
			}
			if g == nil {
				continue
			}
			if gw, gh := g.Size(); gw != w || gh != h {
				t.Fatalf("New(%d, %d) has the size %d, %d", w, h, gw, gh)
			}
		}
	}
}

// P6.1: New, its cells are blank.
func TestNewBlank(t *testing.T) {
	for _, s := range []place{{1, 1}, {1, most}, {most, 1}, {7, 3}, {3, 7}} {
		check(t, grid.New(s.x, s.y), wordsNew(s.x, s.y))
	}
}

// P6.1, P6.3: Set and At, one cell, of any kind, and no other one.
func TestSet(t *testing.T) {
	for _, s := range []place{{1, 1}, {5, 1}, {1, 5}, {4, 3}} {
		for y := range s.y {
			for x := range s.x {
				for _, c := range someCells() {
					g, m := pair(s.x, s.y)
					m.cells[place{x, y}] = c
					if !g.Set(x, y, c) {
						t.Fatalf("Set(%d, %d) is false in %v", x, y, s)
					}
					check(t, g, m)
				}
			}
		}
	}
}

// P6.1, P6.3: Set, At and Row outside.
func TestOutside(t *testing.T) {
	for _, s := range []place{{4, 3}, {1, 1}, {most, 2}, {2, most}} {
		g, m := pair(s.x, s.y)
		l := append(bounds(), s.x, s.y, s.x+1, s.y+1, s.x*s.y, 1<<32+1)
		for _, x := range l {
			for _, y := range l {
				c, there := m.cells[place{x, y}]
				if got := g.At(x, y); got != c {
					t.Fatalf("At(%d, %d) = %v in %v, want %v", x, y, got, s, c)
				}
				if !there && g.Set(x, y, api.Cell{R: 'x'}) {
					t.Fatalf("Set(%d, %d) is true in %v", x, y, s)
				}
			}
			if row := g.Row(x); (len(row) != 0) != (x >= 0 && x < s.y) {
				t.Fatalf("Row(%d) = %v in %v", x, row, s)
			}
		}
		check(t, g, m)
	}
}

// P6.1: Fill, ordinary rectangles, and such as aren't right.
func TestFill(t *testing.T) {
	c := api.Cell{R: 'x', P: api.Pen{Bg: 3}}
	for _, x := range []struct {
		r    api.Rect
		want int
	}{
		{at(0, 0, 4, 3), 12},
		{at(1, 1, 2, 1), 2},
		{at(-1, 0, 3, 1), 2},
		{at(3, 2, 9, 9), 1},
		{at(-far, -far, far, far), 0},
		{at(-far, -far, far, far+1), 0},
		{at(1-far, 1-far, far, far), 1},
		{at(0, 0, far, far), 12},
		{at(-1, -1, far, far), 12},
		{at(far, far, far, far), 0},
		{at(2, 0, 1, far), 3},
		{at(-far, 1, far, 1), 0},
		{at(4, 0, 1, 1), 0},
		{at(0, 3, 1, 1), 0},
		{at(-1, 0, 1, 1), 0},
		{at(0, 0, 0, 3), 0},
		{at(0, 0, 4, 0), 0},
		{at(0, 0, 0, 0), 0},
		{at(0, 0, -1, 3), 0},
		{at(0, 0, 4, -1), 0},
		{at(3, 2, -2, -2), 0},
		{at(0, 0, far+1, 1), 0},
		{at(0, 0, 1, far+1), 0},
		{at(-far-1, 0, far, 1), 0},
		{at(-1, -1, math.MaxInt, math.MaxInt), 0},
		{at(math.MinInt, 0, math.MaxInt, 1), 0},
		{at(0, 0, math.MinInt, math.MinInt), 0},
	} {
		g, m := pair(4, 3)
		if got := g.Fill(x.r, c); got != x.want || m.fill(x.r, c) != x.want {
			t.Errorf("Fill(%v) = %d, want %d", x.r, got, x.want)
		}
		check(t, g, m)
	}
}

// P6.1, P6.3: Fill, all small rectangles, and all at the bounds.
func TestFillEach(t *testing.T) {
	cells := someCells()
	n := 0
	each := func(places, sizes []int) {
		for _, x := range places {
			for _, y := range places {
				for _, w := range sizes {
					for _, h := range sizes {
						g, m := pair(3, 2)
						r, c := at(x, y, w, h), cells[n%len(cells)]
						n++
						if got, want := g.Fill(r, c), m.fill(r, c); got != want {
							t.Fatalf("Fill(%v) = %d, want %d", r, got, want)
						}
						check(t, g, m)
					}
				}
			}
		}
	}
	each([]int{-2, -1, 0, 1, 2, 3, 4}, []int{-1, 0, 1, 2, 3, 4, 5})
	each(bounds(), []int{math.MinInt, -1, 0, 1, 3, far, far + 1, math.MaxInt})
}

// P6.1: Equal.
func TestEqual(t *testing.T) {
	g, _ := pair(4, 3)
	o, _ := pair(4, 3)
	if !g.Equal(o) || !o.Equal(g) || !g.Equal(g) {
		t.Error("the same size and cells aren't equal")
	}
	if g.Equal(nil) {
		t.Error("equal to nil")
	}
	for y := range 3 {
		for x := range 4 {
			c := g.At(x, y)
			for _, other := range []api.Cell{{R: c.R + 1, P: c.P}, {R: c.R, P: api.Pen{Fg: c.P.Fg + 1, Bg: c.P.Bg, Flags: c.P.Flags}}, {R: c.R, P: api.Pen{Fg: c.P.Fg, Bg: c.P.Bg + 1, Flags: c.P.Flags}}, {R: c.R, P: api.Pen{Fg: c.P.Fg, Bg: c.P.Bg, Flags: c.P.Flags + 1<<40}}} {
				o.Set(x, y, other)
				if g.Equal(o) || o.Equal(g) {
					t.Errorf("equal, though (%d, %d) is %v and %v", x, y, c, other)
				}
			}
			o.Set(x, y, c)
		}
	}
	if !g.Equal(o) {
		t.Error("not equal any more")
	}
	for _, c := range someCells() {
		for _, d := range someCells() {
			a, b := grid.New(1, 1), grid.New(1, 1)
			a.Set(0, 0, c)
			b.Set(0, 0, d)
			if a.Equal(b) != (c == d) {
				t.Errorf("%v and %v: %v", c, d, a.Equal(b))
			}
		}
	}
}

// P6.1: Equal, of all small sizes, of blank cells.
func TestEqualSizes(t *testing.T) {
	for a := range 16 {
		for b := range 16 {
			g, o := grid.New(a/4+1, a%4+1), grid.New(b/4+1, b%4+1)
			if g.Equal(o) != (a == b) {
				t.Errorf("%d by %d and %d by %d: %v", a/4+1, a%4+1, b/4+1, b%4+1, g.Equal(o))
			}
		}
	}
}

// P6.2: Copy of the row 0 of 3 cells to (1, 0): the first comes twice, the last is gone.
func TestCopyExample(t *testing.T) {
	g := grid.New(3, 1)
	a, b, c := api.Cell{R: 'a'}, api.Cell{R: 'b'}, api.Cell{R: 'c'}
	for x, one := range []api.Cell{a, b, c} {
		g.Set(x, 0, one)
	}
	if n := g.Copy(at(0, 0, 3, 1), 1, 0); n != 2 {
		t.Errorf("%d came", n)
	}
	if got := g.Row(0); !slices.Equal(got, []api.Cell{a, a, b}) {
		t.Errorf("the row is %v", got)
	}
}

// checkCopy holds Copy, and Blit to the grid itself, against the words.
func checkCopy(t *testing.T, w, h int, r api.Rect, x, y int) {
	t.Helper()
	g, m := pair(w, h)
	o, _ := pair(w, h)
	want := m.blit(m, r, x, y)
	if got := g.Copy(r, x, y); got != want {
		t.Fatalf("Copy(%v, %d, %d) of %d by %d = %d, want %d", r, x, y, w, h, got, want)
	}
	if got := o.Blit(o, r, x, y); got != want {
		t.Fatalf("Blit(%v, %d, %d) of %d by %d to itself = %d, want %d", r, x, y, w, h, got, want)
	}
	check(t, g, m)
	check(t, o, m)
}

// checkBlit holds Blit of a grid of w by h to one of tw by th against the words; the first one stays as it is.
func checkBlit(t *testing.T, w, h, tw, th int, r api.Rect, x, y int) {
	t.Helper()
	g, m := pair(w, h)
	to, tm := grid.New(tw, th), wordsNew(tw, th)
	c := api.Cell{R: '.', P: api.Pen{Flags: api.Dim}}
	to.Fill(at(0, 0, tw, th), c)
	tm.fill(at(0, 0, tw, th), c)
	if got, want := g.Blit(to, r, x, y), m.blit(tm, r, x, y); got != want {
		t.Fatalf("Blit(%v, %d, %d) of %d by %d to %d by %d = %d, want %d", r, x, y, w, h, tw, th, got, want)
	}
	check(t, to, tm)
	check(t, g, m)
}

// P6.2, P6.3: Copy and Blit, all small rectangles to all near places.
func TestCopyAndBlitEach(t *testing.T) {
	for rx := -1; rx < 4; rx++ {
		for ry := -1; ry < 3; ry++ {
			for rw := -1; rw < 5; rw++ {
				for rh := -1; rh < 4; rh++ {
					r := at(rx, ry, rw, rh)
					for x := -2; x < 4; x++ {
						for y := -2; y < 4; y++ {
							checkCopy(t, 3, 2, r, x, y)
							checkBlit(t, 3, 2, 2, 3, r, x, y)
						}
					}
				}
			}
		}
	}
}

// P6.2: Copy and Blit, at all bounds.
func TestCopyAndBlitBounds(t *testing.T) {
	for _, r := range []api.Rect{
		at(0, 0, 4, 3), at(0, 0, far, far), at(-far, -far, far, far), at(1-far, 2-far, far, far), at(far, far, far, far), at(far, far, 0, 0), at(1, 1, 1, 1), at(-1, -1, far, far),
		at(0, 0, far+1, 1), at(0, 0, 4, far+1), at(-far-1, 0, far, 1), at(0, -far-1, 1, far), at(far+1, 0, 4, 4), at(0, far+1, 4, 4),
		at(0, 0, -1, 3), at(0, 0, 4, -1), at(0, 0, 0, 3), at(3, 2, -far, -far), at(0, 0, -far-1, 3), at(0, 0, math.MaxInt, math.MaxInt), at(math.MinInt, math.MinInt, math.MaxInt, math.MaxInt), at(0, 0, math.MinInt, math.MinInt),
	} {
		for _, x := range append(bounds(), 1-far, 2-far, 3-far) {
			for _, y := range append(bounds(), 1-far, 2-far, 3-far) {
				checkCopy(t, 4, 3, r, x, y)
				checkBlit(t, 4, 3, 5, 2, r, x, y)
			}
		}
	}
}

// P6.2: rectangles that aren't wholly there come by their corner, not by their first cell that is there.
func TestCorner(t *testing.T) {
	for _, x := range []struct {
		r    api.Rect
		x, y int
		want int
	}{
		{at(-1, -1, 3, 3), 0, 0, 4},
		{at(-far, -far, far, far), 0, 0, 0},
		{at(1-far, 1-far, far, far), 1 - far, 1 - far, 1},
		{at(1-far, 1-far, far, far), 4 - far, 3 - far, 1},
		{at(1-far, 1-far, far, far), 5 - far, 3 - far, 0},
		{at(0, 0, far, far), -3, -2, 1},
		{at(0, 0, far, far), -4, -2, 0},
		{at(0, 0, 4, 3), far, far, 0},
		{at(0, 0, 4, 3), -far, -far, 0},
		{at(0, 0, 4, 3), far + 1, 0, 0},
		{at(0, 0, 4, 3), 0, -far - 1, 0},
	} {
		g, m := pair(4, 3)
		if got := g.Copy(x.r, x.x, x.y); got != x.want || m.blit(m, x.r, x.x, x.y) != x.want {
			t.Errorf("Copy(%v, %d, %d) = %d, want %d", x.r, x.x, x.y, got, x.want)
		}
		check(t, g, m)
	}
}

// P6.2: Blit to nil, whatever the numbers.
func TestBlitNil(t *testing.T) {
	g, m := pair(4, 3)
	for _, n := range bounds() {
		for _, r := range []api.Rect{at(0, 0, 4, 3), at(n, n, n, n), at(0, 0, n, n), at(n, n, 4, 3)} {
			if got := g.Blit(nil, r, n, 0); got != 0 {
				t.Errorf("Blit(nil, %v, %d, 0) = %d", r, n, got)
			}
			if got := g.Blit(nil, r, 0, 0); got != 0 {
				t.Errorf("Blit(nil, %v, 0, 0) = %d", r, got)
			}
		}
	}
	check(t, g, m)
}

// P6.2, P6.3: Resize, all small sizes; the grid itself stays as it is.
func TestResize(t *testing.T) {
	for w := 1; w < 6; w++ {
		for h := 1; h < 6; h++ {
			g, m := pair(3, 4)
			o := g.Resize(w, h)
			check(t, o, m.resize(w, h))
			check(t, g, m)
			o.Fill(at(0, 0, w, h), api.Cell{R: 'o'})
			check(t, g, m)
			g.Fill(at(0, 0, 3, 4), api.Cell{R: 'g'})
			if got := o.At(0, 0); got != (api.Cell{R: 'o'}) {
				t.Fatalf("what was resized changes with the other one: %v", got)
			}
		}
	}
}

// P6.2: Resize, at all bounds; what was lost doesn't come again.
func TestResizeBounds(t *testing.T) {
	g, m := pair(3, 4)
	for _, w := range bounds() {
		for _, h := range bounds() {
			o, want := g.Resize(w, h), w >= 1 && w <= most && h >= 1 && h <= most
			if (o != nil) != want {
				t.Fatalf("Resize(%d, %d) = %v", w, h, o)
			}
			if o == nil {
				continue
			}
			if ow, oh := o.Size(); ow != w || oh != h {
				t.Fatalf("Resize(%d, %d) has the size %d, %d", w, h, ow, oh)
			}
			if p, ok := sameCells(o, m.resize(w, h)); !ok {
				t.Fatalf("Resize(%d, %d) has %v at %v", w, h, o.At(p.x, p.y), p)
			}
		}
	}
	check(t, g.Resize(2, 1).Resize(3, 4), m.resize(2, 1).resize(3, 4))
	check(t, g, m)
}

// P6.2, P6.3: Clone is another one of the same.
func TestClone(t *testing.T) {
	for _, s := range []place{{1, 1}, {4, 3}, {most, 1}, {1, most}} {
		g, m := pair(s.x, s.y)
		o := g.Clone()
		check(t, o, m)
		if o == g || !o.Equal(g) {
			t.Fatalf("Clone of %v is itself, or not equal", s)
		}
		o.Fill(at(0, 0, s.x, s.y), api.Cell{R: 'o'})
		check(t, g, m)
		o = g.Clone()
		g.Fill(at(0, 0, s.x, s.y), api.Cell{R: 'g'})
		check(t, o, m)
	}
}

// P6.1, P6.2: the greatest grid.
func TestGreatest(t *testing.T) {
	g := grid.New(most, most)
	last := api.Cell{R: 'z', P: api.Pen{Fg: 256}}
	if !g.Set(most-1, most-1, last) || g.Set(most, most-1, last) || g.Set(most-1, most, last) {
		t.Fatal("Set")
	}
	if n := g.Copy(at(0, 0, far, far), 1-most, 1-most); n != 1 || g.At(0, 0) != last {
		t.Fatalf("Copy = %d, %v", n, g.At(0, 0))
	}
	if n := g.Copy(at(0, 0, most, most), 1, 1); n != 511*511 || g.At(1, 1) != last || g.At(0, 0) != last || g.At(2, 2) != none || g.At(most-1, most-1) != none {
		t.Fatalf("Copy = %d", n)
	}
	if n := g.Fill(at(0, 0, far, far), last); n != most*most || !slices.Equal(g.Row(511), slices.Repeat([]api.Cell{last}, most)) {
		t.Fatalf("Fill = %d", n)
	}
	if o := g.Clone(); !o.Equal(g) || !o.Set(511, 511, none) || o.Equal(g) {
		t.Fatal("Clone")
	}
}

// P6.1: a wide pair isn't mended: cells are what they were made.
func TestWidePair(t *testing.T) {
	left, right := api.Cell{R: 0x4e00}, api.Cell{R: -1}
	g := grid.New(3, 1)
	g.Set(0, 0, left)
	g.Set(1, 0, right)
	g.Copy(at(0, 0, 1, 1), 2, 0)
	g.Set(0, 0, none)
	if got := g.Row(0); !slices.Equal(got, []api.Cell{none, right, left}) {
		t.Errorf("the row is %v", got)
	}
}

// anyRect is a rectangle of any kind, most of them near a grid of 9 by 9.
func anyRect(c *rand.Rand) api.Rect {
	l := bounds()
	number := func(low, high int) int {
		if c.IntN(24) == 0 {
			return l[c.IntN(len(l))]
		}
		return low + c.IntN(high-low)
	}
	return at(number(-4, 10), number(-4, 10), number(-1, 14), number(-1, 14))
}

// P6.1 to P6.3: grids of any kind, by any calls, one behind the other.
func TestAny(t *testing.T) {
	c := rand.New(rand.NewPCG(6, 1))
	cells := someCells()
	for range 400 {
		gs, ms := make([]*grid.Grid, 3), make([]words, 3)
		for i := range gs {
			gs[i], ms[i] = pair(1+c.IntN(9), 1+c.IntN(9))
		}
		for range 60 {
			i, o := c.IntN(3), c.IntN(3)
			r, x, y := anyRect(c), c.IntN(15)-5, c.IntN(15)-5
			got, want := 0, 0
			switch c.IntN(5) {
			case 0:
				one := cells[c.IntN(len(cells))]
				got, want = gs[i].Fill(r, one), ms[i].fill(r, one)
			case 1:
				got, want = gs[i].Copy(r, x, y), ms[i].blit(ms[i], r, x, y)
			case 2:
				got, want = gs[i].Blit(gs[o], r, x, y), ms[i].blit(ms[o], r, x, y)
			case 3:
				w, h := 1+c.IntN(9), 1+c.IntN(9)
				gs[o], ms[o] = gs[i].Resize(w, h), ms[i].resize(w, h)
			default:
				gs[o], ms[o] = gs[i].Clone(), ms[i].clone()
			}
			if got != want {
				t.Fatalf("%d, want %d, of %v, %d, %d", got, want, r, x, y)
			}
			for k := range gs {
				check(t, gs[k], ms[k])
			}
		}
	}
}

// P6.3, R4: a row that is answered may be written over, and what is set later doesn't change it.
func TestMemory(t *testing.T) {
	g, m := pair(4, 3)
	for y := range 3 {
		first, second := g.Row(y), g.Row(y)
		was := slices.Clone(second)
		clear(first)
		_ = append(first[:0], api.Cell{R: 'x'})
		_ = append(second, api.Cell{R: 'y'}, api.Cell{R: 'y'})
		if !slices.Equal(second, was) {
			t.Errorf("Row(%d) is changed: %v", y, second)
		}
	}
	check(t, g, m)
	row := g.Row(1)
	was := slices.Clone(row)
	g.Fill(at(0, 0, 4, 3), api.Cell{R: 'z'})
	if !slices.Equal(row, was) {
		t.Errorf("Row is changed by Fill: %v", row)
	}
	other := grid.New(4, 3)
	g.Blit(other, at(0, 0, 4, 3), 0, 0)
	g.Set(1, 1, none)
	if got := other.At(1, 1); got != (api.Cell{R: 'z'}) {
		t.Errorf("what was brought is changed: %v", got)
	}
}

// R6: the same call on the same state has the same answer, whatever was asked between.
func TestOneAnswer(t *testing.T) {
	c := rand.New(rand.NewPCG(6, 2))
	for range 2000 {
		g, _ := pair(1+c.IntN(9), 1+c.IntN(9))
		o, other := g.Clone(), grid.New(1+c.IntN(9), 1+c.IntN(9))
		r, x, y := anyRect(c), c.IntN(15)-5, c.IntN(15)-5
		n := g.Copy(r, x, y)
		g.Blit(other, anyRect(c), y, x)
		other.Fill(anyRect(c), api.Cell{R: 'o'})
		g.Resize(3, 3).Fill(at(0, 0, 3, 3), none)
		if o.Copy(r, x, y) != n || !o.Equal(g) || !g.Equal(o) || !slices.Equal(g.Row(0), o.Row(0)) {
			t.Fatalf("Copy(%v, %d, %d) has two answers", r, x, y)
		}
	}
}

// P1: no call panics, of what New answers that is no grid, too.
func TestNoGrid(t *testing.T) {
	g := grid.New(0, 0)
	if w, h := g.Size(); w != 0 || h != 0 || g.At(0, 0) != none || g.Set(0, 0, none) || g.Row(0) != nil {
		t.Error("there are cells")
	}
	r := at(0, 0, 1, 1)
	if g.Fill(r, none) != 0 || g.Copy(r, 0, 0) != 0 || g.Blit(grid.New(1, 1), r, 0, 0) != 0 || g.Clone() != nil || g.Resize(0, 1) != nil || g.Equal(grid.New(1, 1)) {
		t.Error("there are cells")
	}
}

// P1, R1: every call ends and none panics, at any argument.
func FuzzAll(f *testing.F) {
	f.Add(4, 3, 2, 2, 0, 0, 4, 3, 1, 1)
	f.Add(3, 1, 3, 1, 0, 0, 3, 1, 1, 0)
	f.Add(9, 9, 1, 1, -1, -1, far, far, -far, far)
	f.Add(0, 513, -1, 1, math.MinInt, math.MaxInt, math.MinInt, math.MaxInt, math.MaxInt, math.MinInt)
	f.Fuzz(func(t *testing.T, w, h, tw, th, rx, ry, rw, rh, x, y int) {
		for _, s := range []place{{w, h}, {tw, th}} {
			if g := grid.New(s.x, s.y); (g != nil) != (s.x >= 1 && s.x <= most && s.y >= 1 && s.y <= most) {
				t.Fatalf("New(%d, %d) = %v", s.x, s.y, g)
			}
		}
		small := func(n int) int { return int(uint(n)%9) + 1 }
		w, h, tw, th = small(w), small(h), small(tw), small(th)
		r := at(rx, ry, rw, rh)
		checkCopy(t, w, h, r, x, y)
		checkBlit(t, w, h, tw, th, r, x, y)
		g, m := pair(w, h)
		c := api.Cell{R: rune(x), P: api.Pen{Fg: y, Bg: rx, Flags: ry}}
		if got, want := g.Fill(r, c), m.fill(r, c); got != want {
			t.Fatalf("Fill(%v) = %d, want %d", r, got, want)
		}
		_, there := m.cells[place{x, y}]
		if got := g.Set(x, y, c); got != there {
			t.Fatalf("Set(%d, %d) = %v", x, y, got)
		}
		if there {
			m.cells[place{x, y}] = c
		}
		check(t, g, m)
	})
}

package draw_test

import (
	"fmt"
	"math"
	"math/rand/v2"
	"slices"
	"strings"
	"testing"
	"unicode/utf8"

	"betony/api"
	"betony/draw"
	"betony/frame"
	"betony/stack"
	"betony/utf"
	"betony/wide"
)

const (
	far      = 1 << 30
	greatest = 512 // cells of a screen, in a row or a column
	most     = 256 // windows
)

// at is a rectangle by its numbers.
func at(x, y, w, h int) api.Rect { return api.Rect{X: x, Y: y, W: w, H: h} }

// bounds are numbers at all bounds, on either side.
func bounds() []int {
	return []int{math.MinInt, math.MinInt + 1, -1 << 32, -far - 1, -far, -far + 1, -greatest, -3, -2, -1, 0, 1, 2, 3, 4, 5, greatest, greatest + 1, far - greatest, far - 1, far, far + 1, 1 << 32, 1<<32 + 1, math.MaxInt - 1, math.MaxInt}
}

// someCells are cells of any kind: halves of wide pairs, and such as are no runes or have no right pens, too.
func someCells() []api.Cell {
	l := []api.Cell{{}, {R: 'a'}, {R: 'b', P: api.Pen{Fg: 4}}, {R: 0x4e00, P: api.Pen{Fg: 1}}, {R: -1, P: api.Pen{Fg: 1}}, {P: api.Pen{Bg: 1 << 24, Flags: api.Inverse}}}
	return append(l, api.Cell{R: math.MinInt32, P: api.Pen{Fg: -1, Bg: math.MinInt, Flags: math.MaxInt}}, api.Cell{R: math.MaxInt32, P: api.Pen{Fg: 1 << 40}}, api.Cell{R: 0xd800})
}

// line is n cells, no two of them alike.
func line(n int) []api.Cell {
	l := make([]api.Cell, n)
	for i := range l {
		l[i] = api.Cell{R: rune('A' + i), P: api.Pen{Fg: i % 17}}
	}
	return l
}

// scene is a frame and a stack, and the cells by the chapter's words, which they are held against.
type scene struct {
	t     *testing.T
	f     *frame.Frame
	s     *stack.Stack
	w, h  int
	cells []api.Cell // row by row
}

// sceneNew is a frame of w by h, with cells no two of which are alike, and a stack of the same size, which has windows of those rectangles, each upon those ahead of it.
func sceneNew(t *testing.T, w, h int, windows ...api.Rect) *scene {
	t.Helper()
	return sceneOf(t, w, h, stack.New(w, h), windows...)
}

// sceneOf is such a scene with a stack of any size.
func sceneOf(t *testing.T, w, h int, s *stack.Stack, windows ...api.Rect) *scene {
	t.Helper()
	p := &scene{t, frame.New(w, h), s, w, h, make([]api.Cell, w*h)}
	for i, r := range windows {
		if _, e := s.Add(i, r); e != api.OK {
			t.Fatalf("Add(%d, %v) = %v", i, r, e)
		}
	}
	for i := range p.cells {
		p.cells[i] = api.Cell{R: rune(0x100 + i), P: api.Pen{Bg: 3}}
		p.f.Put(i%w, i/w, p.cells[i])
	}
	p.f.Notes()
	return p
}

// hide hides a window.
func (p *scene) hide(id int, hidden bool) {
	p.t.Helper()
	if e := p.s.Hide(id, hidden); e != api.OK {
		p.t.Fatalf("Hide(%d) = %v", id, e)
	}
}

// hasCell tells whether r has the cell; r's numbers are near.
func hasCell(r api.Rect, x, y int) bool {
	return x >= r.X && x < r.X+r.W && y >= r.Y && y < r.Y+r.H
}

// isFar tells whether one of the numbers isn't from -Far to Far.
func isFar(l ...int) bool { return slices.Min(l) < -far || slices.Max(l) > far }

// isRight tells whether r is right.
func isRight(r api.Rect) bool { return !isFar(r.X, r.Y, r.W, r.H) && r.W >= 0 && r.H >= 0 }

// mine tells whether the frame has the cell, and the window owns it: no shown window above it has the cell.
func (p *scene) mine(id, x, y int) bool {
	if !hasCell(at(0, 0, p.w, p.h), x, y) {
		return false
	}
	for _, w := range p.s.All() {
		if !w.Hidden && hasCell(w.R, x, y) {
			return w.Id == id
		}
	}
	return false
}

// eachMine hands f the places of the frame that the window owns, row by row, from the left, as the screen has them and as the window has them.
func (p *scene) eachMine(id int, f func(x, y, inX, inY int)) {
	w, _ := p.s.Get(id)
	for y := range p.h {
		for x := range p.w {
			if p.mine(id, x, y) {
				f(x, y, x-w.R.X, y-w.R.Y)
			}
		}
	}
}

// wordsCells is what Cells writes by the words.
func (p *scene) wordsCells(id, x, y int, l []api.Cell) []api.Write {
	var out []api.Write
	p.eachMine(id, func(sx, sy, inX, inY int) {
		if !isFar(x, y) && inY == y && inX >= x && inX-x < len(l) {
			out = append(out, api.Write{X: sx, Y: sy, C: l[inX-x]})
		}
	})
	return out
}

// wordsFill is what Fill writes by the words.
func (p *scene) wordsFill(id int, r api.Rect, c api.Cell) []api.Write {
	var out []api.Write
	p.eachMine(id, func(sx, sy, inX, inY int) {
		if isRight(r) && hasCell(r, inX, inY) {
			out = append(out, api.Write{X: sx, Y: sy, C: c})
		}
	})
	return out
}

// wordsCopy is what Copy writes by the words.
func (p *scene) wordsCopy(id int, r api.Rect, x, y int) []api.Write {
	var out []api.Write
	p.eachMine(id, func(sx, sy, inX, inY int) {
		if !isRight(r) || isFar(x, y) || !hasCell(at(x, y, r.W, r.H), inX, inY) {
			return
		}
		fromX, fromY := sx-x+r.X, sy-y+r.Y
		if p.mine(id, fromX, fromY) {
			out = append(out, api.Write{X: sx, Y: sy, C: p.cells[fromY*p.w+fromX]})
		}
	})
	return out
}

// same holds what a call answered, what it wrote, in what order, and what all cells and windows are then, against the words.
func (p *scene) same(call string, n int, e api.Errno, id int, want []api.Write, was []api.Window) {
	p.t.Helper()
	wantE := api.ErrNone
	if _, ok := p.s.Get(id); ok {
		wantE = api.OK
	}
	if n != len(want) || e != wantE {
		p.t.Fatalf("%s = %d, %v, want %d, %v, of %v", call, n, e, len(want), wantE, was)
	}
	if got := p.f.Notes(); !slices.Equal(got, want) {
		p.t.Fatalf("%s wrote %v, want %v, of %v", call, got, want, was)
	}
	for _, w := range want {
		p.cells[w.Y*p.w+w.X] = w.C
	}
	for i, c := range p.cells {
		if got := p.f.At(i%p.w, i/p.w); got != c {
			p.t.Fatalf("behind %s at %d, %d is %v, want %v", call, i%p.w, i/p.w, got, c)
		}
	}
	if got := p.s.All(); !slices.Equal(got, was) {
		p.t.Fatalf("behind %s the windows are %v, want %v", call, got, was)
	}
}

// put holds Cells against the words.
func (p *scene) put(id, x, y int, l []api.Cell) int {
	p.t.Helper()
	want, was, given := p.wordsCells(id, x, y, l), p.s.All(), slices.Clone(l)
	n, e := draw.Cells(p.f, p.s, id, x, y, l)
	p.same(call("Cells", id, x, y, len(l)), n, e, id, want, was)
	if !slices.Equal(l, given) {
		p.t.Fatalf("%s changed what it was handed", call("Cells", id, x, y, len(l)))
	}
	return n
}

// fill holds Fill against the words.
func (p *scene) fill(id int, r api.Rect, c api.Cell) int {
	p.t.Helper()
	want, was := p.wordsFill(id, r, c), p.s.All()
	n, e := draw.Fill(p.f, p.s, id, r, c)
	p.same(call("Fill", id, r.X, r.Y, r.W, r.H), n, e, id, want, was)
	return n
}

// copy holds Copy against the words.
func (p *scene) copy(id int, r api.Rect, x, y int) int {
	p.t.Helper()
	want, was := p.wordsCopy(id, r, x, y), p.s.All()
	n, e := draw.Copy(p.f, p.s, id, r, x, y)
	p.same(call("Copy", id, r.X, r.Y, r.W, r.H, x, y), n, e, id, want, was)
	return n
}

// call is a call as text.
func call(name string, l ...int) string { return fmt.Sprint(name, l) }

// runes is the runes of the row y, a dot for each cell that wasn't drawn yet.
func (p *scene) runes(y int) string {
	var l []rune
	for x := range p.w {
		r := p.f.At(x, y).R
		if r >= 0x100 {
			r = '.'
		}
		l = append(l, r)
	}
	return string(l)
}

// rows holds all rows against what is wanted.
func (p *scene) rows(want ...string) {
	p.t.Helper()
	for y, row := range want {
		if got := p.runes(y); got != row {
			p.t.Fatalf("the row %d is %q, want %q", y, got, row)
		}
	}
}

// text is cells of s.
func text(s string) []api.Cell { return draw.Text(s, api.Pen{Fg: 2}) }

// P13.1, P13.3: the chapter's example: Fill of a window whose half is covered writes the other half.
func TestExample(t *testing.T) {
	p := sceneNew(t, 6, 4, at(1, 1, 4, 2), at(3, 0, 3, 4))
	if n := p.fill(1, at(0, 0, 4, 2), api.Cell{R: '#'}); n != 4 {
		t.Errorf("Fill wrote %d", n)
	}
	p.rows("......", ".##...", ".##...", "......")
	if n := p.fill(2, at(0, 0, 3, 4), api.Cell{R: '+'}); n != 12 {
		t.Errorf("Fill wrote %d", n)
	}
	p.rows("...+++", ".##+++", ".##+++", "...+++")
}

// P13.1: Cells: from the column on to the right, and not in the next row; places count from the window's corner.
func TestCells(t *testing.T) {
	for _, x := range []struct {
		x, y, n int
		s       string
		rows    []string
	}{
		{0, 0, 2, "ab", []string{"......", "..ab..", "......", "......"}},
		{1, 1, 2, "ab", []string{"......", "......", "...ab.", "......"}},
		{0, 0, 3, "abcdefgh", []string{"......", "..abc.", "......", "......"}},
		{2, 1, 1, "abcdefgh", []string{"......", "......", "....a.", "......"}},
		{-2, 0, 3, "abcdefgh", []string{"......", "..cde.", "......", "......"}},
		{-2, 0, 1, "abc", []string{"......", "..c...", "......", "......"}},
		{-2, 0, 0, "ab", []string{"......", "......", "......", "......"}},
		{-3, 1, 0, "ab", []string{"......", "......", "......", "......"}},
		{3, 0, 0, "ab", []string{"......", "......", "......", "......"}},
		{0, -1, 0, "ab", []string{"......", "......", "......", "......"}},
		{0, 2, 0, "ab", []string{"......", "......", "......", "......"}},
		{0, 0, 0, "", []string{"......", "......", "......", "......"}},
	} {
		p := sceneNew(t, 6, 4, at(0, 0, 6, 4), at(2, 1, 3, 2))
		if n := p.put(2, x.x, x.y, text(x.s)); n != x.n {
			t.Errorf("Cells(%d, %d, %q) wrote %d, want %d", x.x, x.y, x.s, n, x.n)
		}
		p.rows(x.rows...)
	}
}

// P13.1: cells that aren't owned are left out, and those of l that would come there are lost: what stands behind them stays in its column.
func TestCellsCovered(t *testing.T) {
	p := sceneNew(t, 8, 2, at(0, 0, 8, 2), at(2, 0, 2, 1), at(5, 0, 1, 2))
	if n := p.put(1, 0, 0, text("abcdefgh")); n != 5 {
		t.Errorf("Cells wrote %d", n)
	}
	p.rows("ab..e.gh", "........")
	if n := p.put(2, -2, 0, text("ABCDEFGH")); n != 2 {
		t.Errorf("Cells wrote %d", n)
	}
	p.rows("abCDe.gh", "........")
	p.hide(3, true)
	if n := p.put(1, 4, 0, text("xyz")); n != 3 {
		t.Errorf("Cells wrote %d", n)
	}
	p.rows("abCDxyzh", "........")
}

// P13.1: cells of any kind are written as they are: halves of wide pairs alone, too.
func TestCellsOfAnyKind(t *testing.T) {
	p := sceneNew(t, 12, 2, at(1, 0, 11, 2))
	if n := p.put(1, 0, 1, someCells()); n != len(someCells()) {
		t.Errorf("Cells wrote %d", n)
	}
	for i, c := range someCells() {
		if n := p.fill(1, at(i, 0, 1, 1), c); n != 1 || p.f.At(i+1, 0) != c {
			t.Errorf("Fill of %v wrote %d", c, n)
		}
	}
	p.copy(1, at(3, 1, 1, 1), 0, 0)
	p.copy(1, at(0, 0, 11, 2), 1, 0)
}

// P13.1: Cells of long lists, from far on the left.
func TestLong(t *testing.T) {
	l := line(3 * greatest)
	for _, w := range []int{1, 7, greatest} {
		p := sceneNew(t, w, 1, at(0, 0, w, 1))
		for x := -3*greatest - 1; x <= greatest+1; x += 97 {
			p.put(1, x, 0, l)
		}
		for _, x := range []int{-3 * greatest, -3*greatest + 1, -greatest, -2*greatest - 1, w - 1, w, 1 - w} {
			p.put(1, x, 0, l)
		}
	}
}

// P13.1: Fill: all cells of r that are there; none of an r that has none.
func TestFill(t *testing.T) {
	for _, x := range []struct {
		r    api.Rect
		n    int
		rows []string
	}{
		{at(0, 0, 3, 2), 6, []string{"......", "..###.", "..###.", "......"}},
		{at(1, 1, 1, 1), 1, []string{"......", "......", "...#..", "......"}},
		{at(-1, -1, 2, 2), 1, []string{"......", "..#...", "......", "......"}},
		{at(2, 1, 9, 9), 1, []string{"......", "......", "....#.", "......"}},
		{at(-5, -5, 99, 99), 6, []string{"......", "..###.", "..###.", "......"}},
		{at(-9, 1, far, 1), 3, []string{"......", "......", "..###.", "......"}},
		{at(-far, -far, far, far), 0, []string{"......", "......", "......", "......"}},
		{at(1-far, 1-far, far, far), 1, []string{"......", "..#...", "......", "......"}},
		{at(0, 0, 0, 2), 0, []string{"......", "......", "......", "......"}},
		{at(0, 0, 3, 0), 0, []string{"......", "......", "......", "......"}},
		{at(0, 0, 3, -1), 0, []string{"......", "......", "......", "......"}},
		{at(2, 1, -2, -1), 0, []string{"......", "......", "......", "......"}},
		{at(3, 0, 1, 1), 0, []string{"......", "......", "......", "......"}},
		{at(0, 2, 1, 1), 0, []string{"......", "......", "......", "......"}},
		{at(-2, -1, 2, 4), 0, []string{"......", "......", "......", "......"}},
		{at(0, 0, far+1, 2), 0, []string{"......", "......", "......", "......"}},
		{at(0, 0, 3, far+1), 0, []string{"......", "......", "......", "......"}},
		{at(-far-1, 0, far, 2), 0, []string{"......", "......", "......", "......"}},
	} {
		p := sceneNew(t, 6, 4, at(0, 0, 6, 4), at(2, 1, 3, 2))
		if n := p.fill(2, x.r, api.Cell{R: '#'}); n != x.n {
			t.Errorf("Fill(%v) wrote %d, want %d", x.r, n, x.n)
		}
		p.rows(x.rows...)
	}
}

// P13.1: what is written with what it had is written: it counts, and is noted.
func TestSame(t *testing.T) {
	p := sceneNew(t, 3, 2, at(0, 0, 3, 2))
	for range 3 {
		if n := p.fill(1, at(0, 0, 2, 2), api.Cell{R: '#'}); n != 4 {
			t.Errorf("Fill wrote %d", n)
		}
		if n := p.put(1, 0, 0, text("##")); n != 2 {
			t.Errorf("Cells wrote %d", n)
		}
		if n := p.copy(1, at(0, 0, 3, 2), 0, 0); n != 6 {
			t.Errorf("Copy wrote %d", n)
		}
	}
}

// P13.1: Copy: cells come as they were ahead of all, to any side of where they are.
func TestCopy(t *testing.T) {
	for _, x := range []struct {
		r       api.Rect
		x, y, n int
		rows    []string
	}{
		{at(0, 0, 4, 3), 0, 0, 12, []string{"......", ".abcd.", ".efgh.", ".ijkl."}},
		{at(0, 0, 4, 3), 1, 0, 9, []string{"......", ".aabc.", ".eefg.", ".iijk."}},
		{at(0, 0, 4, 3), -1, 0, 9, []string{"......", ".bcdd.", ".fghh.", ".jkll."}},
		{at(0, 0, 4, 3), 0, 1, 8, []string{"......", ".abcd.", ".abcd.", ".efgh."}},
		{at(0, 0, 4, 3), 0, -1, 8, []string{"......", ".efgh.", ".ijkl.", ".ijkl."}},
		{at(0, 0, 4, 3), 1, 1, 6, []string{"......", ".abcd.", ".eabc.", ".iefg."}},
		{at(0, 0, 4, 3), -1, -1, 6, []string{"......", ".fghd.", ".jklh.", ".ijkl."}},
		{at(1, 1, 2, 1), 2, 2, 2, []string{"......", ".abcd.", ".efgh.", ".ijfg."}},
		{at(1, 1, 2, 1), 3, 2, 1, []string{"......", ".abcd.", ".efgh.", ".ijkf."}},
		{at(-1, -1, 2, 2), 2, 1, 1, []string{"......", ".abcd.", ".efgh.", ".ijka."}},
		{at(-9, -9, 99, 99), -8, -9, 9, []string{"......", ".aabc.", ".eefg.", ".iijk."}},
		{at(1-far, 0, far, 1), 2 - far, 0, 1, []string{"......", ".aacd.", ".efgh.", ".ijkl."}},
		{at(0, 0, 4, 3), far, far, 0, []string{"......", ".abcd.", ".efgh.", ".ijkl."}},
		{at(0, 0, 4, 3), far + 1, 0, 0, []string{"......", ".abcd.", ".efgh.", ".ijkl."}},
		{at(0, 0, 4, -1), 0, 0, 0, []string{"......", ".abcd.", ".efgh.", ".ijkl."}},
		{at(0, 0, 0, 3), 1, 0, 0, []string{"......", ".abcd.", ".efgh.", ".ijkl."}},
		{at(4, 0, 2, 3), 0, 0, 0, []string{"......", ".abcd.", ".efgh.", ".ijkl."}},
	} {
		p := sceneNew(t, 6, 4, at(0, 0, 6, 4), at(1, 1, 4, 3))
		for y, s := range []string{"abcd", "efgh", "ijkl"} {
			p.put(2, 0, y, text(s))
		}
		if n := p.copy(2, x.r, x.x, x.y); n != x.n {
			t.Errorf("Copy(%v, %d, %d) wrote %d, want %d", x.r, x.x, x.y, n, x.n)
		}
		p.rows(x.rows...)
	}
}

// P13.1, P13.3: Copy, of a window that is covered: of what it doesn't own nothing comes, and there nothing is written.
func TestCopyCovered(t *testing.T) {
	p := sceneNew(t, 8, 1, at(0, 0, 8, 1), at(3, 0, 1, 1))
	p.put(1, 0, 0, text("abcdefgh"))
	p.put(2, 0, 0, text("X"))
	p.rows("abcXefgh")
	if n := p.copy(1, at(0, 0, 7, 1), 1, 0); n != 5 {
		t.Errorf("Copy wrote %d", n)
	}
	p.rows("aabXeefg")
	if n := p.copy(2, at(-3, 0, 8, 1), 0, 0); n != 0 {
		t.Errorf("Copy wrote %d", n)
	}
	p.rows("aabXeefg")
	p.hide(2, true)
	if n := p.copy(1, at(3, 0, 1, 1), 7, 0); n != 1 {
		t.Errorf("Copy wrote %d", n)
	}
	p.rows("aabXeefX")
}

// P13.1, R2, R3: ErrArg stands ahead of ErrNone; with an error nothing is written.
func TestErrors(t *testing.T) {
	p := sceneNew(t, 4, 3, at(0, 0, 4, 3))
	for _, x := range []struct {
		f    *frame.Frame
		s    *stack.Stack
		id   int
		want api.Errno
	}{
		{nil, p.s, 1, api.ErrArg}, {p.f, nil, 1, api.ErrArg}, {nil, nil, 1, api.ErrArg},
		{nil, p.s, 9, api.ErrArg}, {p.f, nil, 9, api.ErrArg}, {nil, nil, math.MinInt, api.ErrArg},
		{p.f, p.s, 2, api.ErrNone}, {p.f, p.s, 0, api.ErrNone}, {p.f, p.s, -1, api.ErrNone}, {p.f, p.s, math.MinInt, api.ErrNone}, {p.f, p.s, math.MaxInt, api.ErrNone}, {p.f, p.s, 1<<32 + 1, api.ErrNone},
		{p.f, stack.New(4, 3), 1, api.ErrNone}, {frame.New(4, 3), stack.New(1, 1), 1, api.ErrNone},
	} {
		for _, r := range []api.Rect{at(0, 0, 4, 3), at(0, 0, -1, 3), at(far+1, 0, 1, 1), {}} {
			n, e := draw.Cells(x.f, x.s, x.id, r.X, r.Y, text("abc"))
			m, d := draw.Fill(x.f, x.s, x.id, r, api.Cell{R: 'z'})
			o, g := draw.Copy(x.f, x.s, x.id, r, r.X, 1)
			if n != 0 || m != 0 || o != 0 || e != x.want || d != x.want || g != x.want {
				t.Errorf("of the window %d, %v: %d, %v; %d, %v; %d, %v; want %v", x.id, r, n, e, m, d, o, g, x.want)
			}
		}
		if l := p.f.Notes(); len(l) != 0 {
			t.Errorf("of the window %d: %v are written", x.id, l)
		}
	}
	p.fill(1, at(0, 0, 4, 3), api.Cell{R: 'z'})
}

// P13.1: a window that went is none any more; another one doesn't get what was its.
func TestDropped(t *testing.T) {
	p := sceneNew(t, 4, 3, at(0, 0, 4, 3), at(1, 1, 2, 1), at(1, 1, 2, 1))
	p.s.Drop(2)
	for id := range 5 {
		p.fill(id, at(0, 0, 4, 3), api.Cell{R: rune('0' + id)})
		p.put(id, 0, 1, text("abc"))
		p.copy(id, at(0, 0, 4, 3), 1, 0)
	}
	p.s.Drop(3)
	p.fill(1, at(0, 0, 4, 3), api.Cell{R: '!'})
	p.rows("!!!!", "!!!!", "!!!!")
}

// P13.1, P13.3: of a window that is hidden or wholly covered nothing is written, and that is no error.
func TestNothingOwned(t *testing.T) {
	p := sceneNew(t, 5, 4, at(0, 0, 5, 4), at(1, 1, 3, 2), at(0, 0, 3, 4), at(3, 0, 1, 4))
	all := func(id, want int) {
		t.Helper()
		if n := p.fill(id, at(0, 0, 9, 9), api.Cell{R: '#'}); n != want {
			t.Errorf("Fill of %d wrote %d, want %d", id, n, want)
		}
		p.put(id, 0, 0, text("abcde"))
		p.copy(id, at(0, 0, 9, 9), 0, 1)
	}
	all(2, 0)
	p.hide(2, true)
	all(2, 0)
	p.hide(3, true)
	all(2, 0)
	p.hide(2, false)
	all(2, 4)
	p.hide(4, true)
	all(2, 6)
	all(4, 0)
	all(3, 0)
	all(1, 14)
	p.hide(1, true)
	all(1, 0)
}

// P13.1, P13.3, R1, R5: each number at all bounds, the others right and wrong.
func TestBounds(t *testing.T) {
	p := sceneNew(t, 7, 5, at(0, 0, 7, 5), at(2, 1, 4, 3), at(4, 2, 3, 1))
	l := line(9)
	for _, x := range bounds() {
		for _, y := range bounds() {
			p.put(2, x, y, l)
			p.put(2, x, y, nil)
			for _, r := range []api.Rect{at(0, 0, 4, 3), at(-1, -1, far, far), at(x, y, 3, 3), at(1-far, 1-far, far, far), at(0, y, far, x), at(x, 0, y, 2)} {
				p.copy(2, r, x, y)
				p.copy(2, r, y, 1)
			}
		}
	}
	for place := range 4 {
		for _, n := range bounds() {
			for _, o := range []api.Rect{{}, at(0, 0, 4, 3), at(1, 1, 2, 2), at(-1, -1, 7, 7), at(1, 1, far, far), at(-far, -far, far, far), at(1-far, 2-far, far, far), at(far, far, 1, 1), at(far, 0, far, far), at(0, 0, far+1, 1)} {
				b := [4]int{o.X, o.Y, o.W, o.H}
				b[place] = n
				r := at(b[0], b[1], b[2], b[3])
				p.fill(2, r, api.Cell{R: '#'})
				for _, to := range [][2]int{{0, 0}, {1, 1}, {-1, 0}, {r.X, r.Y}, {1 - far, 2 - far}, {far, far}, {-far, 0}} {
					p.copy(2, r, to[0], to[1])
				}
			}
		}
	}
}

// P13.1, R5: numbers that are just not far, of a window that isn't at the screen's corner: no place goes round, and none beyond Far comes back.
func TestEdgeOfFar(t *testing.T) {
	c := api.Cell{R: '#'}
	for _, corner := range [][2]int{{0, 0}, {3, 2}} {
		p := sceneNew(t, 6, 4, at(corner[0], corner[1], 3, 2))
		for _, x := range []struct{ got, want int }{
			{p.fill(1, at(-far, -far, far, far), c), 0},
			{p.fill(1, at(1-far, 1-far, far, far), c), 1},
			{p.fill(1, at(2-far, 2-far, far, far), c), 4},
			{p.fill(1, at(-far-1, 0, far, 1), c), 0},
			{p.fill(1, at(-3, 0, far, far), c), 6},
			{p.fill(1, at(-3, 0, far+1, far), c), 0},
			{p.fill(1, at(far, far, far, far), c), 0},
			{p.put(1, -far, 0, line(5)), 0},
			{p.put(1, far, 0, line(5)), 0},
			{p.put(1, 0, far, line(5)), 0},
			{p.put(1, 0, -far, line(5)), 0},
			{p.copy(1, at(1-far, 0, far, far), 3-far, 0), 2},
			{p.copy(1, at(1-far, 0, far, far), -far, 0), 0},
			{p.copy(1, at(1-far, 0, far, far), 1-far, 1), 1},
			{p.copy(1, at(-far, 0, far, far), 1-far, 0), 0},
			{p.copy(1, at(0, 0, far, far), -1, -1), 2},
			{p.copy(1, at(0, 0, far, far), far, far), 0},
			{p.copy(1, at(far, far, 3, 2), 0, 0), 0},
			{p.copy(1, at(0, 0, 3, 2), 0, -far-1), 0},
			{p.copy(1, at(0, 0, 3, 2), far+1, 0), 0},
		} {
			if x.got != x.want {
				t.Errorf("with the corner at %v: %d cells, want %d", corner, x.got, x.want)
			}
		}
	}
}

// P13.1, P13.3: each small rectangle of a window that others cover, to all near places.
func TestEachSmall(t *testing.T) {
	p := sceneNew(t, 7, 5, at(0, 0, 7, 5), at(1, 1, 5, 3), at(3, 0, 1, 3), at(0, 3, 2, 2))
	for id := range 3 {
		for x := -2; x <= 6; x++ {
			for y := -1; y <= 4; y++ {
				for n := range 7 {
					p.put(id+1, x, y, line(n))
				}
				for w := range 5 {
					for h := range 4 {
						p.fill(id+1, at(x, y, w, h), api.Cell{R: rune('0' + w + h)})
					}
				}
			}
		}
	}
}

// P13.1, P13.3: Copy, each small rectangle of a window that others cover, to all near places.
func TestEachCopy(t *testing.T) {
	p := sceneNew(t, 5, 4, at(0, 0, 5, 4), at(1, 0, 4, 3), at(2, 1, 1, 3))
	for x := -1; x <= 4; x++ {
		for y := -1; y <= 3; y++ {
			for w := range 5 {
				for h := range 4 {
					for to := range 42 {
						p.copy(2, at(x, y, w, h), to%7-2, to/7-2)
					}
					p.put(2, x, y, line(w))
				}
			}
		}
	}
}

// P13.1, P13.3: a frame that is smaller or greater than the stack's screen: only cells that it has count and come.
func TestOtherSize(t *testing.T) {
	for _, size := range [][2]int{{3, 2}, {4, 6}, {9, 3}, {9, 9}, {1, 1}} {
		p := sceneOf(t, size[0], size[1], stack.New(6, 4), at(0, 0, 6, 4), at(2, 1, 4, 3), at(4, 1, 1, 1), at(5, 3, 1, 1))
		for id := range 5 {
			for x := -3; x <= 3; x++ {
				for y := -3; y <= 3; y++ {
					p.fill(id, at(x, y, 3, 2), api.Cell{R: rune('0' + id)})
					p.put(id, x, y, line(9))
					p.copy(id, at(0, 0, 6, 4), x, y)
					p.copy(id, at(x, y, 2, 3), 0, 0)
					p.copy(id, at(-9, -9, 99, 99), x-9, y-9)
				}
			}
		}
	}
	p := sceneOf(t, 2, 2, stack.New(6, 4), at(0, 0, 6, 4))
	if n := p.copy(1, at(1, 0, 3, 2), 0, 0); n != 2 {
		t.Errorf("of the cells that the frame has, %d came", n)
	}
}

// anyRect is a rectangle, mostly near, with a number at any bound at times.
func anyRect(c *rand.Rand) api.Rect {
	l := [4]int{c.IntN(14) - 3, c.IntN(12) - 3, c.IntN(12), c.IntN(9)}
	if c.IntN(12) == 0 {
		l[c.IntN(4)] = bounds()[c.IntN(len(bounds()))]
	}
	return at(l[0], l[1], l[2], l[3])
}

// change makes any call of the stack.
func (p *scene) change(c *rand.Rand, w, h int) {
	id, x, y := c.IntN(7), c.IntN(w), c.IntN(h)
	r := at(x, y, 1+c.IntN(w-x), 1+c.IntN(h-y))
	switch c.IntN(6) {
	case 0:
		p.s.Drop(id)
	case 1:
		p.s.Top(id)
	case 2:
		p.s.Hide(id, c.IntN(2) == 0)
	case 3:
		p.s.Move(id, r)
	default:
		p.s.Add(c.IntN(3), r)
	}
}

// drawAny makes any call of draw.
func (p *scene) drawAny(c *rand.Rand) {
	p.t.Helper()
	id, cells := c.IntN(8), someCells()
	r, to := anyRect(c), anyRect(c)
	switch c.IntN(3) {
	case 0:
		p.put(id, r.X, r.Y, line(c.IntN(14)))
	case 1:
		p.fill(id, r, cells[c.IntN(len(cells))])
	default:
		p.copy(id, r, to.X, to.Y)
	}
}

// P13.1, P13.3: any calls, while windows come, go and are laid one upon the other.
func TestAny(t *testing.T) {
	c := rand.New(rand.NewPCG(13, 1))
	for range 300 {
		w, h := 1+c.IntN(10), 1+c.IntN(8)
		p := sceneOf(t, 1+c.IntN(10), 1+c.IntN(8), stack.New(w, h))
		if c.IntN(3) > 0 {
			p = sceneNew(t, w, h, at(0, 0, w, h))
		}
		for range 80 {
			if c.IntN(4) == 0 {
				p.change(c, w, h)
			} else {
				p.drawAny(c)
			}
		}
	}
}

// P13.3: whatever is called for one window, no cell that another one owns, or none, is written.
func TestNobodyElses(t *testing.T) {
	c := rand.New(rand.NewPCG(13, 2))
	for range 200 {
		f, s := frame.New(9, 7), stack.New(9, 7)
		for i := range 5 {
			x, y := c.IntN(9), c.IntN(7)
			s.Add(i, at(x, y, 1+c.IntN(9-x), 1+c.IntN(7-y)))
		}
		for range 60 {
			id, r, to := c.IntN(7), anyRect(c), anyRect(c)
			n, _ := draw.Fill(f, s, id, r, api.Cell{R: 'f'})
			m, _ := draw.Cells(f, s, id, r.X, r.Y, line(c.IntN(20)))
			o, _ := draw.Copy(f, s, id, r, to.X, to.Y)
			l := f.Notes()
			if n+m+o != len(l) {
				t.Fatalf("%d, %d and %d cells, and %d notes", n, m, o, len(l))
			}
			for _, w := range l {
				if owner := s.Owner(w.X, w.Y); owner != id || owner == 0 {
					t.Fatalf("for the window %d a cell of %d is written", id, owner)
				}
			}
		}
	}
}

// P13.1: the greatest screen, with the most windows.
func TestGreatest(t *testing.T) {
	f, s := frame.New(greatest, greatest), stack.New(greatest, greatest)
	s.Add(0, at(0, 0, greatest, greatest))
	for i := range most - 1 {
		s.Add(0, at(2*i, 0, 1, greatest))
	}
	whole, free := at(0, 0, greatest, greatest), greatest*(greatest-most+1)
	if n, e := draw.Fill(f, s, 1, whole, api.Cell{R: 'a'}); n != free || e != api.OK || len(f.Notes()) != free {
		t.Fatalf("Fill = %d, %v, want %d", n, e, free)
	}
	if n, e := draw.Cells(f, s, 1, 0, greatest-1, line(2*greatest)); n != greatest-most+1 || e != api.OK {
		t.Fatalf("Cells = %d, %v", n, e)
	}
	f.Notes()
	// Nothing comes to the column 1, from outside, nor to 510, from 508, which is covered.
	if n, e := draw.Copy(f, s, 1, whole, 2, 0); n != free-2*greatest || e != api.OK {
		t.Fatalf("Copy = %d, %v, want %d", n, e, free-2*greatest)
	}
	last := -1
	for _, w := range f.Notes() {
		if w.Y*greatest+w.X <= last || s.Owner(w.X, w.Y) != 1 {
			t.Fatalf("%v stands behind the place %d", w, last)
		}
		last = w.Y*greatest + w.X
	}
	if got, want := f.At(greatest-1, greatest-1), line(greatest)[greatest-3]; got != want {
		t.Fatalf("the last cell is %v, want %v", got, want)
	}
}

// P13.2: Text, of texts whose cells are known.
func TestText(t *testing.T) {
	p := api.Pen{Fg: 5, Bg: 9, Flags: api.Bold | api.Strike}
	for _, x := range []struct {
		s    string
		want []rune
	}{
		{"", nil},
		{"abc", []rune{'a', 'b', 'c'}},
		{" ~", []rune{' ', '~'}},
		{"\u4e00", []rune{0x4e00, -1}},
		{"a\u4e00\n\u0301", []rune{'a', 0x4e00, -1}},
		{"\u4e00\u4e00b", []rune{0x4e00, -1, 0x4e00, -1, 'b'}},
		{"\U0001f600\U00020000\uff01", []rune{0x1f600, -1, 0x20000, -1, 0xff01, -1}},
		{"\x00\a\t\n\r\x1b\x7f\u0080\u009f", nil},
		{"\u0300\u200b\ufe0f\u20d0", nil},
		{"e\u0301\u0302!", []rune{'e', '!'}},
		{"\u4e00\u0301a", []rune{0x4e00, -1, 'a'}},
		{"\u00a0\u00e9\u2500\U0010ffff", []rune{0xa0, 0xe9, 0x2500, 0x10ffff}},
		// What isn't right UTF-8 is told as Bad, which takes one cell.
		{"\xff", []rune{api.Bad}},
		{"\xe2\x82A", []rune{api.Bad, 'A'}},
		{"\xe2\x82", []rune{api.Bad}},
		{"\xed\xa0\x80", []rune{api.Bad, api.Bad, api.Bad}},
		{"\xc0\x80\n\x9b", []rune{api.Bad, api.Bad, api.Bad}},
		{"\xf4\x90a", []rune{api.Bad, api.Bad, 'a'}},
		{"\ufffd", []rune{api.Bad}},
	} {
		var want []api.Cell
		for _, r := range x.want {
			want = append(want, api.Cell{R: r, P: p})
		}
		if got := draw.Text(x.s, p); !slices.Equal(got, want) {
			t.Errorf("Text(%q) = %v, want %v", x.s, got, want)
		}
	}
}

// wordsText is Text by the words.
func wordsText(s string, p api.Pen) []api.Cell {
	var out []api.Cell
	for _, r := range utf.All([]byte(s)) {
		for i := range max(0, wide.Width(r)) {
			out = append(out, api.Cell{R: [...]rune{r, -1}[i], P: p})
		}
	}
	return out
}

// P13.2: Text, of each rune there is, alone.
func TestTextOfEach(t *testing.T) {
	p := api.Pen{Fg: 1 << 24, Flags: api.Under}
	for r := rune(0); r <= 0x10ffff; r++ {
		if s := string(utf.Put(r)); !slices.Equal(draw.Text(s, p), wordsText(s, p)) {
			t.Fatalf("Text of %x = %v", r, draw.Text(s, p))
		}
	}
}

// P13.2, R1: Text of any bytes, with any pen.
func TestTextOfAny(t *testing.T) {
	c := rand.New(rand.NewPCG(13, 3))
	pens := []api.Pen{{}, {Fg: 1}, {Fg: -1, Bg: math.MaxInt, Flags: math.MinInt}, {Flags: 1 << 40}}
	for range 20000 {
		var b []byte
		for range c.IntN(12) {
			switch c.IntN(3) {
			case 0:
				b = append(b, byte(c.Uint32()))
			case 1:
				b = utf8.AppendRune(b, rune(c.IntN(1<<(1+c.IntN(21)))))
			default:
				b = append(b, []byte("a\u4e00\u0301\xe2\x82\x1b")[c.IntN(9)])
			}
		}
		p := pens[c.IntN(len(pens))]
		if s := string(b); !slices.Equal(draw.Text(s, p), wordsText(s, p)) {
			t.Fatalf("Text(%q) = %v, want %v", s, draw.Text(s, p), wordsText(s, p))
		}
	}
}

// P13.2: Text of a long one.
func TestLongText(t *testing.T) {
	const n = 100000
	l := draw.Text(strings.Repeat("a\u4e00\u0301\n", n), api.Pen{Bg: 7})
	if len(l) != 3*n {
		t.Fatalf("there are %d cells", len(l))
	}
	for i, c := range l {
		if want := (api.Cell{R: [...]rune{'a', 0x4e00, -1}[i%3], P: api.Pen{Bg: 7}}); c != want {
			t.Fatalf("the cell %d is %v, want %v", i, c, want)
		}
	}
}

// P13.1, P13.2: a wide one's half is written where the other half isn't the window's: pairs aren't mended.
func TestWidePair(t *testing.T) {
	p := sceneNew(t, 4, 1, at(0, 0, 4, 1), at(2, 0, 1, 1))
	p.put(1, 1, 0, draw.Text("\u4e00", api.Pen{}))
	p.put(1, -1, 0, draw.Text("\u4e00", api.Pen{}))
	p.put(1, 3, 0, draw.Text("\u4e00", api.Pen{}))
	if p.f.At(0, 0).R != -1 || p.f.At(1, 0).R != 0x4e00 || p.f.At(2, 0).R != 0x102 || p.f.At(3, 0).R != 0x4e00 {
		t.Error(p.f.Grid().Row(0))
	}
}

// R4: the cells that are handed in aren't kept, what lies behind their end isn't read, and neither is changed; what Text answers may be written over.
func TestMemory(t *testing.T) {
	p := sceneNew(t, 6, 2, at(0, 0, 6, 2))
	room := line(6)
	was := slices.Clone(room)
	if n := p.put(1, 0, 0, room[1:3]); n != 2 || !slices.Equal(room, was) {
		t.Errorf("%d cells, and what was handed in is %v", n, room)
	}
	clear(room)
	if p.f.At(0, 0) != was[1] || p.f.At(1, 0) != was[2] {
		t.Error("what was handed in is kept")
	}
	first, second := text("ab"), text("ab")
	clear(first[:cap(first)])
	_ = append(first, api.Cell{R: 'z'})
	if !slices.Equal(second, text("ab")) || !slices.Equal(second, wordsText("ab", api.Pen{Fg: 2})) {
		t.Error("what Text answered is written over")
	}
	p.put(1, 0, 1, second)
	clear(second)
	if p.f.At(0, 1).R != 'a' {
		t.Error("what was handed in is kept")
	}
}

// R6: the same calls on the same state have the same answers, whatever was asked between.
func TestOneAnswer(t *testing.T) {
	for seed := range uint64(100) {
		a, b := rand.New(rand.NewPCG(13, seed)), rand.New(rand.NewPCG(13, seed))
		p, o := sceneNew(t, 7, 5, at(0, 0, 7, 5), at(1, 1, 4, 3)), sceneNew(t, 7, 5, at(0, 0, 7, 5), at(1, 1, 4, 3))
		other := sceneNew(t, 5, 7, at(0, 0, 5, 7))
		for range 20 {
			p.drawAny(a)
			other.fill(1, at(0, 0, 5, 7), api.Cell{R: 'x'})
			text("other")
			o.drawAny(b)
			if !p.f.Grid().Equal(o.f.Grid()) {
				t.Fatal("one call has two answers")
			}
		}
	}
}

// P1: no call panics of the zero frame and the zero stack, nor of what New answers that is none.
func TestNoFrame(t *testing.T) {
	s := stack.New(3, 3)
	s.Add(0, at(0, 0, 3, 3))
	for _, x := range []struct {
		f    *frame.Frame
		s    *stack.Stack
		want api.Errno
	}{{frame.New(0, 0), s, api.ErrArg}, {frame.New(3, 3), stack.New(0, 0), api.ErrArg}, {new(frame.Frame), s, api.OK}, {new(frame.Frame), new(stack.Stack), api.ErrNone}} {
		n, e := draw.Cells(x.f, x.s, 1, 0, 0, text("abc"))
		m, d := draw.Fill(x.f, x.s, 1, at(0, 0, 3, 3), api.Cell{R: 'z'})
		o, g := draw.Copy(x.f, x.s, 1, at(0, 0, 3, 3), 0, 0)
		if n != 0 || m != 0 || o != 0 || e != x.want || d != x.want || g != x.want {
			t.Errorf("%d, %v; %d, %v; %d, %v; want %v", n, e, m, d, o, g, x.want)
		}
	}
}

// P1, R1: every call ends and none panics, at any argument.
func FuzzAll(f *testing.F) {
	f.Add(1, 0, 0, 4, 3, 1, 1, int32('a'), 1, "abc", byte(0))
	f.Add(2, -1, -1, far, far, 0, 0, int32(-1), -1, "\u4e00\xff\n", byte(7))
	f.Add(3, math.MinInt, math.MaxInt, math.MaxInt, math.MinInt, math.MinInt, math.MaxInt, int32(math.MinInt32), math.MaxInt, "", byte(255))
	f.Add(1, 1-far, far+1, far, -1, -far, far, int32(math.MaxInt32), 0, "\u0301\x1b", byte(99))
	f.Fuzz(func(t *testing.T, id, x, y, w, h, toX, toY int, r int32, fg int, s string, hidden byte) {
		p := sceneNew(t, 9, 6, at(0, 0, 9, 6), at(2, 1, 5, 4), at(4, 0, 1, 6), at(3, 3, 6, 2))
		for i := range 4 {
			p.hide(i+1, hidden>>i&1 != 0)
		}
		cells := draw.Text(s, api.Pen{Fg: fg})
		if !slices.Equal(cells, wordsText(s, api.Pen{Fg: fg})) {
			t.Fatalf("Text(%q) = %v", s, cells)
		}
		for _, i := range []int{id, int(uint(id)%4) + 1} {
			p.put(i, x, y, cells)
			p.put(i, toX, toY, cells)
			p.fill(i, at(x, y, w, h), api.Cell{R: r, P: api.Pen{Fg: fg}})
			p.put(i, int(uint(x)%12)-2, int(uint(y)%8)-1, cells)
			p.copy(i, at(x, y, w, h), toX, toY)
			p.copy(i, at(x, y, w, h), int(uint(toX)%12)-2, int(uint(toY)%8)-1)
		}
	})
}

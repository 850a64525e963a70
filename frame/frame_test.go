package frame_test

import (
	"math"
	"math/rand/v2"
	"slices"
	"testing"

	"betony/api"
	"betony/frame"
	"betony/grid"
)

const (
	far  = 1 << 30
	most = 512 // columns, or rows
)

// none is the blank cell.
var none api.Cell

// bounds are numbers at all bounds, on either side.
func bounds() []int {
	return []int{math.MinInt, math.MinInt + 1, -1 << 32, -far - 1, -far, -most - 1, -most, -2, -1, 0, 1, 2, 3, 255, 256, most - 1, most, most + 1, far, far + 1, 1<<32 - 1, 1 << 32, 1<<32 + 1, math.MaxInt - 1, math.MaxInt}
}

// someCells are cells of any kind: halves of wide pairs, and such as are no runes or have no right pens, too.
func someCells() []api.Cell {
	l := []api.Cell{none, {R: 'a'}, {R: 'b', P: api.Pen{Fg: 4}}, {R: 0x4e00, P: api.Pen{Fg: 1}}, {R: -1, P: api.Pen{Fg: 1}}, {P: api.Pen{Bg: 1 << 24, Flags: api.Inverse}}}
	return append(l, api.Cell{R: math.MinInt32, P: api.Pen{Fg: -1, Bg: math.MinInt, Flags: math.MaxInt}}, api.Cell{R: math.MaxInt32, P: api.Pen{Fg: 257}}, api.Cell{R: 0xd800})
}

// place is where a cell is.
type place struct{ x, y int }

// words is a frame by the chapter's words: its cells by their places, and what was written since it was noted last.
type words struct {
	w, h  int
	cells map[place]api.Cell
	notes []api.Write
}

// wordsNew is a frame by the words, its cells blank.
func wordsNew(w, h int) *words { return &words{w: w, h: h, cells: map[place]api.Cell{}} }

// there tells whether there is a cell at x and y.
func (m *words) there(x, y int) bool { return x >= 0 && x < m.w && y >= 0 && y < m.h }

// put is Put by the words.
func (m *words) put(x, y int, c api.Cell) bool {
	if !m.there(x, y) {
		return false
	}
	m.cells[place{x, y}] = c
	m.notes = append(m.notes, api.Write{X: x, Y: y, C: c})
	return true
}

// take is Notes by the words.
func (m *words) take() []api.Write {
	l := m.notes
	m.notes = nil
	return l
}

// isSize tells whether w and h are a frame's size.
func isSize(w, h int) bool { return w >= 1 && w <= most && h >= 1 && h <= most }

// check holds f's size and cells against the words, by Size, by At and by Grid.
func check(t *testing.T, f *frame.Frame, m *words) {
	t.Helper()
	if w, h := f.Size(); w != m.w || h != m.h {
		t.Fatalf("Size is %d, %d, want %d, %d", w, h, m.w, m.h)
	}
	g := f.Grid()
	if w, h := g.Size(); w != m.w || h != m.h {
		t.Fatalf("Grid has the size %d, %d, want %d, %d", w, h, m.w, m.h)
	}
	for y := -1; y <= m.h; y++ {
		for x := -1; x <= m.w; x++ {
			want := m.cells[place{x, y}]
			if f.At(x, y) != want || g.At(x, y) != want {
				t.Fatalf("at %d, %d are %v and %v, want %v", x, y, f.At(x, y), g.At(x, y), want)
			}
		}
	}
}

// checkNotes holds f's notes against the words.
func checkNotes(t *testing.T, f *frame.Frame, m *words) {
	t.Helper()
	if got, want := f.Notes(), m.take(); !slices.Equal(got, want) {
		t.Fatalf("Notes = %v, want %v", got, want)
	}
}

// checkPut holds Put against the words.
func checkPut(t *testing.T, f *frame.Frame, m *words, x, y int, c api.Cell) {
	t.Helper()
	if got, want := f.Put(x, y, c), m.put(x, y, c); got != want {
		t.Fatalf("Put(%d, %d, %v) = %v, want %v", x, y, c, got, want)
	}
}

// P10.1: New, its size at all bounds: where layer 6's New has a grid.
func TestNew(t *testing.T) {
	for _, w := range bounds() {
		for _, h := range bounds() {
			f := frame.New(w, h)
			if (f != nil) != isSize(w, h) || (f != nil) != (grid.New(w, h) != nil) {
				t.Fatalf("New(%d, %d) = %v", w, h, f)
			}
			if f == nil {
				continue
			}
			if fw, fh := f.Size(); fw != w || fh != h {
				t.Fatalf("New(%d, %d) has the size %d, %d", w, h, fw, fh)
			}
		}
	}
}

// P10.1: New, its cells are blank, and none is noted.
func TestNewBlank(t *testing.T) {
	for _, s := range []place{{1, 1}, {1, most}, {most, 1}, {7, 3}, {3, 7}, {most, most}} {
		f, m := frame.New(s.x, s.y), wordsNew(s.x, s.y)
		check(t, f, m)
		checkNotes(t, f, m)
	}
}

// P10.1: the chapter's example: Put twice, two notes, and then none.
func TestTwice(t *testing.T) {
	f, c := frame.New(3, 2), api.Cell{R: 'x', P: api.Pen{Fg: 4}}
	if !f.Put(2, 1, c) || !f.Put(2, 1, c) {
		t.Fatal("Put is false")
	}
	one := api.Write{X: 2, Y: 1, C: c}
	if l := f.Notes(); !slices.Equal(l, []api.Write{one, one}) {
		t.Errorf("Notes = %v", l)
	}
	if l := f.Notes(); len(l) != 0 {
		t.Errorf("Notes once more = %v", l)
	}
	if f.At(2, 1) != c {
		t.Errorf("the cell is %v", f.At(2, 1))
	}
}

// P10.1: the notes stand in the order of the writes, with what each got, not what the cell has now.
func TestOrder(t *testing.T) {
	f := frame.New(2, 2)
	l := []api.Write{{X: 1, Y: 1, C: api.Cell{R: 'a'}}, {X: 0, Y: 0, C: api.Cell{R: 'b'}}, {X: 1, Y: 1, C: none}, {X: 0, Y: 1}, {X: 1, Y: 1, C: api.Cell{R: 'a'}}}
	for _, w := range l {
		if !f.Put(w.X, w.Y, w.C) {
			t.Fatalf("Put(%v) is false", w)
		}
	}
	if got := f.Notes(); !slices.Equal(got, l) {
		t.Errorf("Notes = %v, want %v", got, l)
	}
}

// P10.1: a cell that is written with what it had is noted, a blank one that is blank, too.
func TestSame(t *testing.T) {
	f := frame.New(1, 1)
	for _, c := range someCells() {
		for n := range 3 {
			f.Put(0, 0, c)
			if got := f.Notes(); !slices.Equal(got, []api.Write{{C: c}}) {
				t.Errorf("Put(%v), time %d: Notes = %v", c, n, got)
			}
		}
	}
}

// P10.1, P10.2: Put, one cell of any kind at each place, and no other one.
func TestPut(t *testing.T) {
	for _, s := range []place{{1, 1}, {5, 1}, {1, 5}, {4, 3}} {
		for y := range s.y {
			for x := range s.x {
				for _, c := range someCells() {
					f, m := frame.New(s.x, s.y), wordsNew(s.x, s.y)
					checkPut(t, f, m, x, y, c)
					check(t, f, m)
					checkNotes(t, f, m)
					check(t, f, m)
				}
			}
		}
	}
}

// P10.1, P10.2: where no cell is, Put is false, notes nothing and changes nothing; At is the zero cell.
func TestOutside(t *testing.T) {
	for _, s := range []place{{4, 3}, {1, 1}, {most, 2}, {2, most}} {
		f, m := frame.New(s.x, s.y), wordsNew(s.x, s.y)
		checkPut(t, f, m, s.x-1, s.y-1, api.Cell{R: 'z'})
		l := append(bounds(), s.x, s.y, s.x+1, s.y+1, s.x*s.y)
		for _, x := range l {
			for _, y := range l {
				if m.there(x, y) {
					continue
				}
				if f.Put(x, y, api.Cell{R: 'o'}) || f.At(x, y) != none {
					t.Fatalf("in %v there is a cell at %d, %d", s, x, y)
				}
			}
		}
		check(t, f, m)
		checkNotes(t, f, m)
	}
}

// P10.2: between two notes just what is noted changes: the notes, written once more into what was, make what is.
func TestNotedAlone(t *testing.T) {
	c := rand.New(rand.NewPCG(10, 1))
	cells := someCells()
	for range 300 {
		w, h := 1+c.IntN(9), 1+c.IntN(9)
		f := frame.New(w, h)
		was := f.Grid()
		for range 8 {
			for range c.IntN(30) {
				f.Put(c.IntN(w+2)-1, c.IntN(h+2)-1, cells[c.IntN(len(cells))])
			}
			for _, n := range f.Notes() {
				if !was.Set(n.X, n.Y, n.C) {
					t.Fatalf("%v is noted in %d by %d", n, w, h)
				}
			}
			if !was.Equal(f.Grid()) {
				t.Fatalf("a cell that isn't noted changed in %d by %d", w, h)
			}
		}
	}
}

// P10.1: Grid tells the cells as they are, noted or not, and takes no note.
func TestGrid(t *testing.T) {
	f, m := frame.New(3, 2), wordsNew(3, 2)
	checkPut(t, f, m, 1, 0, api.Cell{R: 'a'})
	check(t, f, m)
	checkNotes(t, f, m)
	check(t, f, m)
	checkPut(t, f, m, 1, 0, api.Cell{R: 'b'})
	f.Grid()
	f.Size()
	f.At(1, 0)
	check(t, f, m)
	checkNotes(t, f, m)
}

// P10.1, P10.2, R4: the grid is by itself: what is written into it doesn't come to the frame, nor to another one; nor does what comes to the frame come to it.
func TestGridByItself(t *testing.T) {
	f, m := frame.New(4, 3), wordsNew(4, 3)
	checkPut(t, f, m, 2, 1, api.Cell{R: 'a'})
	first, second := f.Grid(), f.Grid()
	was := second.Clone()
	first.Fill(api.Rect{W: 4, H: 3}, api.Cell{R: 'z'})
	if !second.Equal(was) {
		t.Error("one grid is written over by another one")
	}
	check(t, f, m)
	checkNotes(t, f, m)
	checkPut(t, f, m, 0, 0, api.Cell{R: 'q'})
	if !second.Equal(was) || first.At(0, 0) != (api.Cell{R: 'z'}) {
		t.Error("a grid that was answered is changed by Put")
	}
}

// P10.1, P10.2: all rows of five calls on a frame of two cells.
func TestEach(t *testing.T) {
	const kinds, calls = 7, 5
	all := 1
	for range calls {
		all *= kinds
	}
	for n := range all {
		f, m := frame.New(2, 1), wordsNew(2, 1)
		for k := n; k > 0; k /= kinds {
			call := k % kinds
			if call < 6 {
				checkPut(t, f, m, call/2, 0, []api.Cell{none, {R: 'a'}}[call%2])
			} else {
				checkNotes(t, f, m)
			}
		}
		check(t, f, m)
		checkNotes(t, f, m)
		checkNotes(t, f, m)
	}
}

// P10.1, P10.2: frames of any size, by any calls, each by itself.
func TestAny(t *testing.T) {
	c := rand.New(rand.NewPCG(10, 2))
	cells, l := someCells(), bounds()
	number := func() int {
		if c.IntN(16) == 0 {
			return l[c.IntN(len(l))]
		}
		return c.IntN(11) - 1
	}
	for range 300 {
		fs, ms := make([]*frame.Frame, 2), make([]*words, 2)
		for i := range fs {
			w, h := 1+c.IntN(9), 1+c.IntN(9)
			fs[i], ms[i] = frame.New(w, h), wordsNew(w, h)
		}
		for range 120 {
			i := c.IntN(2)
			switch c.IntN(12) {
			case 0:
				checkNotes(t, fs[i], ms[i])
			case 1:
				check(t, fs[i], ms[i])
			default:
				checkPut(t, fs[i], ms[i], number(), number(), cells[c.IntN(len(cells))])
			}
		}
		for i := range fs {
			check(t, fs[i], ms[i])
			checkNotes(t, fs[i], ms[i])
			check(t, fs[i], ms[i])
		}
	}
}

// P10.1, P10.2: the greatest frame, each cell of it written once.
func TestGreatest(t *testing.T) {
	f, n := frame.New(most, most), 0
	for y := range most {
		for x := range most {
			if !f.Put(x, y, api.Cell{R: rune(y*most + x)}) {
				t.Fatalf("Put(%d, %d) is false", x, y)
			}
		}
	}
	for i, w := range f.Notes() {
		if want := (api.Write{X: i % most, Y: i / most, C: api.Cell{R: rune(i)}}); w != want || f.At(w.X, w.Y) != w.C {
			t.Fatalf("note %d is %v, want %v", i, w, want)
		}
		n++
	}
	if n != most*most || f.At(most-1, most-1).R != most*most-1 || len(f.Notes()) != 0 {
		t.Fatalf("there are %d notes", n)
	}
}

// P10.1: a wide pair isn't mended, and no cell but the one that is put is noted.
func TestWidePair(t *testing.T) {
	f, m := frame.New(3, 1), wordsNew(3, 1)
	checkPut(t, f, m, 0, 0, api.Cell{R: 0x4e00})
	checkPut(t, f, m, 1, 0, api.Cell{R: -1})
	checkPut(t, f, m, 0, 0, none)
	check(t, f, m)
	checkNotes(t, f, m)
}

// R4: notes that are answered may be written over and appended to, and are not changed by what is put later.
func TestMemory(t *testing.T) {
	f, m := frame.New(4, 3), wordsNew(4, 3)
	for round := range 6 {
		for x := range 3 {
			checkPut(t, f, m, x, 0, api.Cell{R: rune('a' + round)})
		}
		l, want := f.Notes(), m.take()
		for x := range 3 {
			checkPut(t, f, m, x, 1, api.Cell{R: rune('A' + round)})
		}
		if !slices.Equal(l, want) {
			t.Fatalf("what was answered is changed: %v, want %v", l, want)
		}
		clear(l[:cap(l)])
		_ = append(l, api.Write{X: 3}, api.Write{X: 3})
		check(t, f, m)
		checkNotes(t, f, m)
	}
}

// R6: the same calls on the same state have the same answers, whatever was asked between.
func TestOneAnswer(t *testing.T) {
	c := rand.New(rand.NewPCG(10, 3))
	cells := someCells()
	for range 500 {
		w, h := 1+c.IntN(6), 1+c.IntN(6)
		f, o := frame.New(w, h), frame.New(w, h)
		for range 30 {
			x, y, one := c.IntN(8)-1, c.IntN(8)-1, cells[c.IntN(len(cells))]
			o.At(y, x)
			o.Grid()
			if f.Put(x, y, one) != o.Put(x, y, one) || f.At(x, y) != o.At(x, y) || f.At(x, y) != f.At(x, y) {
				t.Fatalf("Put(%d, %d) has two answers", x, y)
			}
			if c.IntN(6) == 0 && !slices.Equal(f.Notes(), o.Notes()) {
				t.Fatal("Notes has two answers")
			}
		}
		if !f.Grid().Equal(o.Grid()) || !f.Grid().Equal(f.Grid()) {
			t.Fatal("Grid has two answers")
		}
	}
}

// P1: no call panics, of what New answers that is no frame, and of the zero frame, too.
func TestNoFrame(t *testing.T) {
	for _, f := range []*frame.Frame{frame.New(0, 0), {}} {
		if w, h := f.Size(); w != 0 || h != 0 || f.At(0, 0) != none || f.Put(0, 0, none) || len(f.Notes()) != 0 || f.Grid() != nil {
			t.Errorf("there are cells in %v", f)
		}
	}
}

// P1, R1: every call ends and none panics, at any argument.
func FuzzAll(f *testing.F) {
	f.Add(4, 3, 0, 0, int32('a'), 1, 2, 3, []byte{0, 1, 2, 255, 9})
	f.Add(1, 1, 1, 0, int32(-1), 0, 0, 0, []byte{0, 0, 255, 255})
	f.Add(513, 0, math.MinInt, math.MaxInt, int32(math.MinInt32), math.MinInt, -1, math.MaxInt, []byte{})
	f.Fuzz(func(t *testing.T, w, h, x, y int, r int32, fg, bg, flags int, calls []byte) {
		if o := frame.New(w, h); (o != nil) != isSize(w, h) {
			t.Fatalf("New(%d, %d) = %v", w, h, o)
		}
		small := func(n int) int { return int(uint(n)%9) + 1 }
		o, m := frame.New(small(w), small(h)), wordsNew(small(w), small(h))
		c := api.Cell{R: r, P: api.Pen{Fg: fg, Bg: bg, Flags: flags}}
		checkPut(t, o, m, x, y, c)
		for _, b := range calls {
			if b == 255 {
				checkNotes(t, o, m)
				continue
			}
			c.R += rune(b)
			checkPut(t, o, m, int(b)/10-1, int(b)%10-1, c)
		}
		check(t, o, m)
		checkNotes(t, o, m)
	})
}

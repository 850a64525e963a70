package stack_test

import (
	"fmt"
	"math"
	"math/rand/v2"
	"slices"
	"testing"

	"betony/api"
	"betony/rect"
	"betony/stack"
)

const (
	most     = 256 // windows
	greatest = 512 // cells of a screen, in a row or a column
	far      = 1 << 30
)

// at is a rectangle by its numbers.
func at(x, y, w, h int) api.Rect { return api.Rect{X: x, Y: y, W: w, H: h} }

// bounds are numbers at all bounds, on either side.
func bounds() []int {
	return []int{math.MinInt, math.MinInt + 1, -1 << 32, -far - 1, -far, -greatest, -2, -1, 0, 1, 2, 3, 4, 5, 6, most - 1, most, most + 1, greatest - 1, greatest, greatest + 1, far - 1, far, far + 1, 1 << 32, 1<<32 + 1, math.MaxInt - 1, math.MaxInt}
}

// held is a window by the chapter's words; the one of the highest level is the topmost.
type held struct {
	api.Window
	level int
}

// words is a stack by the words.
type words struct {
	w, h   int
	has    map[int]*held
	made   int
	levels int
}

// wordsNew is a stack without windows by the words.
func wordsNew(w, h int) *words { return &words{w: w, h: h, has: map[int]*held{}} }

// onScreen tells whether a window may have r, number by number.
func (m *words) onScreen(r api.Rect) bool {
	for _, n := range []int{r.X, r.Y, r.W, r.H} {
		if n < 0 || n > greatest {
			return false
		}
	}
	return r.W > 0 && r.H > 0 && r.X+r.W <= m.w && r.Y+r.H <= m.h
}

// add is Add by the words.
func (m *words) add(env int, r api.Rect) (int, api.Errno) {
	if env < 0 {
		return 0, api.ErrArg
	}
	if !m.onScreen(r) {
		return 0, api.ErrRange
	}
	if len(m.has) == most {
		return 0, api.ErrFull
	}
	m.made++
	m.levels++
	m.has[m.made] = &held{api.Window{Id: m.made, Env: env, R: r}, m.levels}
	return m.made, api.OK
}

// with is what Drop, Top, Hide and Move have alike: f is told of the window, if there is such a one.
func (m *words) with(id int, f func(w *held) api.Errno) api.Errno {
	if w := m.has[id]; w != nil {
		return f(w)
	}
	return api.ErrNone
}

// drop is Drop by the words.
func (m *words) drop(id int) api.Errno {
	return m.with(id, func(*held) api.Errno {
		delete(m.has, id)
		return api.OK
	})
}

// top is Top by the words.
func (m *words) top(id int) api.Errno {
	return m.with(id, func(w *held) api.Errno {
		m.levels++
		w.level = m.levels
		return api.OK
	})
}

// hide is Hide by the words.
func (m *words) hide(id int, hidden bool) api.Errno {
	return m.with(id, func(w *held) api.Errno {
		w.Hidden = hidden
		return api.OK
	})
}

// move is Move by the words.
func (m *words) move(id int, r api.Rect) api.Errno {
	return m.with(id, func(w *held) api.Errno {
		if !m.onScreen(r) {
			return api.ErrRange
		}
		w.R = r
		return api.OK
	})
}

// rising is the windows by their levels, the lowest one first.
func (m *words) rising() []*held {
	var l []*held
	for _, w := range m.has {
		l = append(l, w)
	}
	slices.SortFunc(l, func(a, b *held) int { return a.level - b.level })
	return l
}

// all is All by the words.
func (m *words) all() []api.Window {
	var l []api.Window
	for _, w := range m.rising() {
		l = append([]api.Window{w.Window}, l...)
	}
	return l
}

// owners is who owns each cell, row by row: the windows are laid on the screen, each upon those below it.
func (m *words) owners() []int {
	cells := make([]int, m.w*m.h)
	for _, w := range m.rising() {
		for y := range w.R.H {
			for x := range w.R.W {
				if !w.Hidden {
					cells[(w.R.Y+y)*m.w+w.R.X+x] = w.Id
				}
			}
		}
	}
	return cells
}

// pair is a stack, and the words that it is held against.
type pair struct {
	t *testing.T
	s *stack.Stack
	m *words
}

// pairNew is a stack without windows and its words.
func pairNew(t *testing.T, w, h int) pair {
	t.Helper()
	s := stack.New(w, h)
	if s == nil {
		t.Fatalf("New(%d, %d) is nil", w, h)
	}
	return pair{t, s, wordsNew(w, h)}
}

func (p pair) add(env int, r api.Rect) int {
	p.t.Helper()
	got, ge := p.s.Add(env, r)
	if want, we := p.m.add(env, r); got != want || ge != we {
		p.t.Fatalf("Add(%d, %v) = %d, %v, want %d, %v", env, r, got, ge, want, we)
	}
	return got
}

// same holds an error against the words' one.
func (p pair) same(call string, got, want api.Errno) {
	p.t.Helper()
	if got != want {
		p.t.Fatalf("%s = %v, want %v", call, got, want)
	}
}

func (p pair) drop(id int) {
	p.t.Helper()
	p.same(fmt.Sprint("Drop ", id), p.s.Drop(id), p.m.drop(id))
}

func (p pair) top(id int) {
	p.t.Helper()
	p.same(fmt.Sprint("Top ", id), p.s.Top(id), p.m.top(id))
}

func (p pair) hide(id int, hidden bool) {
	p.t.Helper()
	p.same(fmt.Sprint("Hide ", id, hidden), p.s.Hide(id, hidden), p.m.hide(id, hidden))
}

func (p pair) move(id int, r api.Rect) {
	p.t.Helper()
	p.same(fmt.Sprint("Move ", id, r), p.s.Move(id, r), p.m.move(id, r))
}

// get holds Get against the words.
func (p pair) get(id int) {
	p.t.Helper()
	var want api.Window
	w := p.m.has[id]
	if w != nil {
		want = w.Window
	}
	if got, ok := p.s.Get(id); got != want || ok != (w != nil) {
		p.t.Fatalf("Get(%d) = %v, %v, want %v", id, got, ok, want)
	}
}

// owned holds Owner of each cell, and of those around the screen, against the words.
func (p pair) owned() {
	p.t.Helper()
	want := p.m.owners()
	for y := -1; y <= p.m.h; y++ {
		for x := -1; x <= p.m.w; x++ {
			n := 0
			if x >= 0 && x < p.m.w && y >= 0 && y < p.m.h {
				n = want[y*p.m.w+x]
			}
			if got := p.s.Owner(x, y); got != n {
				p.t.Fatalf("Owner(%d, %d) = %d, want %d, of %v", x, y, got, n, p.m.all())
			}
		}
	}
}

// seen lays what Seen tells of each window on a screen: no cell is told twice, none is missing, none is another one's.
func (p pair) seen() {
	p.t.Helper()
	cells := make([]int, p.m.w*p.m.h)
	for id := -1; id <= p.m.made+1; id++ {
		for _, r := range p.s.Seen(id) {
			if !p.m.onScreen(r) {
				p.t.Fatalf("Seen(%d) has %v", id, r)
			}
			for y := r.Y; y < r.Y+r.H; y++ {
				for x := r.X; x < r.X+r.W; x++ {
					if cells[y*p.m.w+x] != 0 {
						p.t.Fatalf("%d, %d is seen of %d and of %d", x, y, cells[y*p.m.w+x], id)
					}
					cells[y*p.m.w+x] = id
				}
			}
		}
	}
	if want := p.m.owners(); !slices.Equal(cells, want) {
		p.t.Fatalf("seen is %v, want %v, of %v", cells, want, p.m.all())
	}
}

// whole holds all that can be asked against the words.
func (p pair) whole() {
	p.t.Helper()
	if got, want := p.s.All(), p.m.all(); !slices.Equal(got, want) {
		p.t.Fatalf("All() = %v, want %v", got, want)
	}
	for id := -1; id <= p.m.made+1; id++ {
		p.get(id)
	}
	p.owned()
	p.seen()
}

// P12.1: New, its arguments at all bounds; a new stack has no windows.
func TestNew(t *testing.T) {
	for _, w := range bounds() {
		for _, h := range bounds() {
			s := stack.New(w, h)
			if (s != nil) != (w >= 1 && w <= greatest && h >= 1 && h <= greatest) {
				t.Fatalf("New(%d, %d) = %v", w, h, s)
			}
			if s == nil {
				continue
			}
			if len(s.All()) != 0 || s.Owner(0, 0) != 0 || len(s.Seen(0)) != 0 || len(s.Seen(1)) != 0 {
				t.Fatalf("New(%d, %d) has windows", w, h)
			}
			if id, e := s.Add(0, at(0, 0, w, h)); id != 1 || e != api.OK {
				t.Fatalf("Add of the whole screen of %d by %d = %d, %v", w, h, id, e)
			}
		}
	}
}

// P12.1 to P12.3: the chapter's example: the lower one owns what the upper one hasn't.
func TestExample(t *testing.T) {
	p := pairNew(t, 6, 4)
	lower := p.add(1, at(0, 0, 4, 3))
	upper := p.add(2, at(1, 1, 4, 3))
	for _, x := range []struct{ x, y, want int }{{0, 0, lower}, {3, 0, lower}, {0, 2, lower}, {1, 1, upper}, {3, 2, upper}, {4, 3, upper}, {4, 0, 0}, {0, 3, 0}, {5, 3, 0}} {
		if got := p.s.Owner(x.x, x.y); got != x.want {
			t.Errorf("Owner(%d, %d) = %d, want %d", x.x, x.y, got, x.want)
		}
	}
	area := 0
	for _, r := range p.s.Seen(lower) {
		area += rect.Area(r)
	}
	if area != 6 || !slices.Equal(p.s.Seen(upper), []api.Rect{at(1, 1, 4, 3)}) {
		t.Errorf("seen are %v, %v", p.s.Seen(lower), p.s.Seen(upper))
	}
	p.whole()
}

// P12.1: a new window is topmost, not hidden, and has what it was given; All and Get tell it.
func TestAdd(t *testing.T) {
	s := stack.New(5, 5)
	a, _ := s.Add(0, at(0, 0, 5, 5))
	b, _ := s.Add(math.MaxInt, at(4, 4, 1, 1))
	s.Hide(b, true)
	c, _ := s.Add(7, at(4, 4, 1, 1))
	want := []api.Window{{Id: 3, Env: 7, R: at(4, 4, 1, 1)}, {Id: 2, Env: math.MaxInt, R: at(4, 4, 1, 1), Hidden: true}, {Id: 1, R: at(0, 0, 5, 5)}}
	if a != 1 || b != 2 || c != 3 || !slices.Equal(s.All(), want) {
		t.Errorf("%d, %d, %d: All() = %v", a, b, c, s.All())
	}
	for _, w := range want {
		if got, ok := s.Get(w.Id); got != w || !ok {
			t.Errorf("Get(%d) = %v, %v", w.Id, got, ok)
		}
	}
	if s.Owner(4, 4) != c || s.Owner(3, 4) != a {
		t.Error("who is topmost doesn't own it")
	}
}

// P12.1, R1, R5: Add and Move, each number of a rectangle at all bounds, the others right and wrong; and environments.
func TestRectangles(t *testing.T) {
	for place := range 4 {
		for _, n := range bounds() {
			for _, o := range []api.Rect{{}, at(0, 0, 6, 4), at(1, 1, 2, 2), at(5, 3, 1, 1), at(2, 1, 4, 3), at(-1, -1, 7, 5), at(1, 1, far, far), at(far, far, 1, 1)} {
				l := [4]int{o.X, o.Y, o.W, o.H}
				l[place] = n
				r := at(l[0], l[1], l[2], l[3])
				p := pairNew(t, 6, 4)
				id := p.add(3, r)
				p.get(id)
				p.move(p.add(0, at(0, 0, 1, 1)), r)
				p.whole()
			}
		}
	}
	for _, env := range bounds() {
		p := pairNew(t, 6, 4)
		p.add(env, at(1, 1, 1, 1))
		p.whole()
	}
}

// P12.1: what is just on the screen is taken, and what stands a cell out of it isn't, on the greatest screen too.
func TestEdges(t *testing.T) {
	for _, size := range []struct{ w, h int }{{1, 1}, {6, 4}, {1, greatest}, {greatest, 1}, {greatest, greatest}} {
		w, h := size.w, size.h
		for _, x := range []struct {
			r    api.Rect
			want api.Errno
		}{
			{at(0, 0, w, h), api.OK}, {at(w-1, h-1, 1, 1), api.OK}, {at(0, 0, 1, 1), api.OK},
			{at(0, 0, w+1, h), api.ErrRange}, {at(0, 0, w, h+1), api.ErrRange},
			{at(-1, 0, 1, 1), api.ErrRange}, {at(0, -1, 1, 1), api.ErrRange}, {at(-1, 0, w, h), api.ErrRange}, {at(0, -1, w, h), api.ErrRange},
			{at(1, 0, w, h), api.ErrRange}, {at(0, 1, w, h), api.ErrRange}, {at(w, 0, 1, 1), api.ErrRange}, {at(0, h, 1, 1), api.ErrRange},
			{at(0, 0, 0, h), api.ErrRange}, {at(0, 0, w, 0), api.ErrRange}, {at(0, 0, 0, 0), api.ErrRange}, {at(0, 0, -1, 1), api.ErrRange}, {at(0, 0, 1, -1), api.ErrRange},
			{at(w, h, -1, -1), api.ErrRange}, {at(0, 0, math.MaxInt, 1), api.ErrRange}, {at(math.MinInt, 0, math.MaxInt, 1), api.ErrRange}, {at(1, 1, math.MaxInt, math.MaxInt), api.ErrRange},
		} {
			s := stack.New(w, h)
			if id, e := s.Add(0, x.r); e != x.want || (id == 1) != (e == api.OK) {
				t.Errorf("on %d by %d: Add(0, %v) = %d, %v, want %v", w, h, x.r, id, e, x.want)
			}
			s = stack.New(w, h)
			id, _ := s.Add(0, at(0, 0, 1, 1))
			if e := s.Move(id, x.r); e != x.want {
				t.Errorf("on %d by %d: Move to %v = %v, want %v", w, h, x.r, e, x.want)
			}
			if got, _ := s.Get(id); (got.R == x.r) != (x.want == api.OK) {
				t.Errorf("on %d by %d: behind Move to %v it has %v", w, h, x.r, got.R)
			}
		}
	}
}

// P12.1, R2: errors stand in their order: of Add ErrArg, ErrRange, ErrFull; of Move ErrNone, ErrRange.
func TestOrder(t *testing.T) {
	p := pairNew(t, 2, 2)
	for range most {
		p.add(0, at(0, 0, 1, 1))
	}
	for _, x := range []struct {
		env  int
		r    api.Rect
		want api.Errno
	}{
		{-1, at(0, 0, 3, 1), api.ErrArg}, {-1, at(0, 0, 1, 1), api.ErrArg}, {math.MinInt, api.Rect{}, api.ErrArg},
		{0, at(0, 0, 3, 1), api.ErrRange}, {0, api.Rect{}, api.ErrRange}, {0, at(0, 0, 1, 1), api.ErrFull}, {math.MaxInt, at(0, 0, 2, 2), api.ErrFull},
	} {
		if id, e := p.s.Add(x.env, x.r); id != 0 || e != x.want {
			t.Errorf("Add(%d, %v) = %d, %v, want %v", x.env, x.r, id, e, x.want)
		}
	}
	for _, id := range []int{math.MinInt, -1, 0, most + 1, math.MaxInt} {
		if e := p.s.Move(id, at(0, 0, 3, 1)); e != api.ErrNone {
			t.Errorf("Move of %d to a wrong one = %v", id, e)
		}
	}
	if e := p.s.Move(1, at(0, 0, 3, 1)); e != api.ErrRange {
		t.Errorf("Move to a wrong one = %v", e)
	}
	p.whole()
}

// P12.1: there are at most 256, hidden ones too; where one went, there is room for one again, and no number comes twice.
func TestFull(t *testing.T) {
	p := pairNew(t, 3, 3)
	for i := range most {
		if id := p.add(i, at(i%3, i%2, 1, 1)); id != i+1 {
			t.Fatalf("number %d is %d", i+1, id)
		}
		p.hide(i+1, i%2 == 0)
	}
	p.whole()
	for round := range 3 {
		p.add(0, at(0, 0, 1, 1))
		p.drop(100 + round)
		p.add(0, at(0, 0, 4, 1))
		p.add(-1, at(0, 0, 1, 1))
		if id := p.add(0, at(0, 0, 1, 1)); id != most+1+round {
			t.Fatalf("in round %d it has the number %d", round, id)
		}
	}
	p.whole()
	for id := range most + 3 {
		p.drop(id + 1)
		p.drop(id + 1)
	}
	p.whole()
	if id := p.add(0, at(0, 0, 1, 1)); id != most+4 {
		t.Fatalf("behind all it has the number %d", id)
	}
	p.whole()
}

// P12.1, R1: numbers of windows at all bounds, in each call that takes one, while there are none, some, and fewer.
func TestNumbers(t *testing.T) {
	for _, id := range bounds() {
		p := pairNew(t, 4, 3)
		for range 3 {
			p.get(id)
			p.move(id, at(1, 1, 2, 1))
			p.hide(id, true)
			p.top(id)
			p.whole()
			p.hide(id, false)
			p.whole()
			if _, ok := p.m.has[id]; !ok && len(p.s.Seen(id)) != 0 {
				t.Fatalf("Seen(%d) = %v", id, p.s.Seen(id))
			}
			p.drop(id)
			p.whole()
			p.add(0, at(0, 0, 4, 3))
			p.add(1, at(1, 0, 2, 2))
		}
	}
}

// P12.1, R1: Owner of places at all bounds.
func TestPlaces(t *testing.T) {
	p := pairNew(t, 5, 4)
	p.add(0, at(0, 0, 5, 4))
	p.add(0, at(1, 1, 3, 2))
	for _, x := range bounds() {
		for _, y := range bounds() {
			want := 0
			if x >= 0 && x < 5 && y >= 0 && y < 4 {
				want = p.m.owners()[y*5+x]
			}
			if got := p.s.Owner(x, y); got != want {
				t.Errorf("Owner(%d, %d) = %d, want %d", x, y, got, want)
			}
		}
	}
}

// P12.1: Top, Hide, Move and Drop of each of five windows that lie across each other, and what the others keep.
func TestCalls(t *testing.T) {
	for id := range 7 {
		for call := range 6 {
			p := pairNew(t, 7, 6)
			for i, r := range []api.Rect{at(0, 0, 7, 6), at(1, 1, 4, 3), at(2, 0, 2, 6), at(0, 2, 7, 1), at(3, 2, 3, 3)} {
				p.add(i, r)
			}
			p.hide(4, true)
			switch call {
			case 0:
				p.top(id)
			case 1:
				p.hide(id, true)
			case 2:
				p.hide(id, false)
			case 3:
				p.move(id, at(2, 2, 3, 2))
			case 4:
				p.drop(id)
			default:
				p.move(id, at(6, 0, 2, 2))
			}
			p.whole()
			p.top(1)
			p.whole()
		}
	}
}

// P12.1: a hidden window keeps where it stands, and its rectangle; it is topmost, moved and dropped as any other.
func TestHidden(t *testing.T) {
	p := pairNew(t, 3, 1)
	a, b, c := p.add(1, at(0, 0, 3, 1)), p.add(2, at(0, 0, 2, 1)), p.add(3, at(1, 0, 2, 1))
	owners := func(want ...int) {
		t.Helper()
		for x, n := range want {
			if got := p.s.Owner(x, 0); got != n {
				t.Fatalf("Owner(%d, 0) = %d, want %d", x, got, n)
			}
		}
		p.whole()
	}
	owners(b, c, c)
	p.hide(c, true)
	owners(b, b, a)
	p.hide(c, true)
	owners(b, b, a)
	p.hide(c, false)
	owners(b, c, c)
	p.hide(b, true)
	owners(a, c, c)
	p.top(b)
	owners(a, c, c)
	p.move(b, at(1, 0, 1, 1))
	owners(a, c, c)
	p.hide(b, false)
	owners(a, b, c)
	p.hide(a, true)
	owners(0, b, c)
	p.hide(c, true)
	p.drop(c)
	owners(0, b, 0)
	p.drop(b)
	owners(0, 0, 0)
	p.hide(a, false)
	owners(a, a, a)
}

// P12.2: nothing is seen of a window that is wholly covered, by one or by several together, nor of a hidden one.
func TestNothingSeen(t *testing.T) {
	p := pairNew(t, 8, 8)
	low := p.add(0, at(2, 2, 4, 4))
	if got := p.s.Seen(low); !slices.Equal(got, []api.Rect{at(2, 2, 4, 4)}) {
		t.Errorf("Seen(%d) = %v", low, got)
	}
	p.hide(low, true)
	if got := p.s.Seen(low); len(got) != 0 {
		t.Errorf("of a hidden one: %v", got)
	}
	p.hide(low, false)
	for _, r := range []api.Rect{at(0, 0, 4, 4), at(4, 0, 4, 4), at(0, 4, 4, 4)} {
		p.add(0, r)
		if len(p.s.Seen(low)) == 0 {
			t.Errorf("nothing is seen of %v", p.m.all())
		}
		p.whole()
	}
	last := p.add(0, at(4, 4, 2, 2))
	if got := p.s.Seen(low); len(got) != 0 {
		t.Errorf("of a covered one: %v", got)
	}
	p.whole()
	p.move(last, at(5, 4, 1, 2))
	if got := p.s.Seen(low); !slices.Equal(got, []api.Rect{at(4, 4, 1, 2)}) {
		t.Errorf("of one that is covered but for a column: %v", got)
	}
	p.whole()
}

// everySmall is each rectangle with cells on a screen of w by h.
func everySmall(w, h int) []api.Rect {
	var l []api.Rect
	for x := range w {
		for y := range h {
			for r := 1; r <= w-x; r++ {
				for b := 1; b <= h-y; b++ {
					l = append(l, at(x, y, r, b))
				}
			}
		}
	}
	return l
}

// P12.2, P12.3: each window of a small screen below each two others.
func TestEachThree(t *testing.T) {
	l := everySmall(3, 3)
	p := pairNew(t, 3, 3)
	for range 3 {
		p.add(0, at(0, 0, 1, 1))
	}
	for _, a := range l {
		for _, b := range l {
			for _, c := range l {
				p.move(1, a)
				p.move(2, b)
				p.move(3, c)
				p.seen()
			}
		}
	}
	p.whole()
}

// step makes one of the small calls that TestEach goes through.
func (p pair) step(call int) {
	p.t.Helper()
	id := call%3 + 1
	switch call / 3 {
	case 0:
		p.add(call, [...]api.Rect{at(0, 0, 2, 2), at(1, 0, 2, 1), at(0, 1, 3, 1)}[call])
	case 1:
		p.top(id)
	case 2:
		p.drop(id)
	case 3:
		p.hide(id, true)
	case 4:
		p.hide(id, false)
	default:
		p.move(id, at(id%2, 0, 2, 2))
	}
}

// P12.1 to P12.3: all rows of four calls behind two windows.
func TestEach(t *testing.T) {
	const kinds, calls = 18, 4
	all := 1
	for range calls {
		all *= kinds
	}
	for n := range all {
		p := pairNew(t, 3, 2)
		p.step(0)
		p.step(1)
		for k, left := n, calls; left > 0; k, left = k/kinds, left-1 {
			p.step(k % kinds)
		}
		p.whole()
	}
}

// anyRect is a rectangle, mostly on a screen of w by h.
func anyRect(c *rand.Rand, w, h int) api.Rect {
	x, y := c.IntN(w), c.IntN(h)
	l := [4]int{x, y, 1 + c.IntN(w-x), 1 + c.IntN(h-y)}
	switch c.IntN(20) {
	case 0:
		l[c.IntN(4)] = bounds()[c.IntN(len(bounds()))]
	case 1:
		l[c.IntN(4)]++
	case 2:
		l[c.IntN(4)]--
	}
	return at(l[0], l[1], l[2], l[3])
}

// call makes any call of a window among those that are or were there, or isn't.
func (p pair) call(c *rand.Rand) {
	p.t.Helper()
	id := c.IntN(p.m.made + 2)
	if c.IntN(30) == 0 {
		id = bounds()[c.IntN(len(bounds()))]
	}
	switch c.IntN(10) {
	case 0, 1, 2:
		p.add(c.IntN(9)-1, anyRect(c, p.m.w, p.m.h))
	case 3:
		p.drop(id)
	case 4, 5:
		p.top(id)
	case 6:
		p.hide(id, true)
	case 7:
		p.hide(id, false)
	default:
		p.move(id, anyRect(c, p.m.w, p.m.h))
	}
}

// P12.1 to P12.3: stacks of any size, by any calls, each by itself.
func TestAny(t *testing.T) {
	c := rand.New(rand.NewPCG(12, 1))
	for range 150 {
		ps := []pair{pairNew(t, 1+c.IntN(12), 1+c.IntN(9)), pairNew(t, 1+c.IntN(12), 1+c.IntN(9))}
		for i := range 60 {
			ps[c.IntN(2)].call(c)
			if i%5 == 0 {
				ps[0].whole()
				ps[1].whole()
			}
		}
	}
}

// P12.2, P12.3: the greatest screen with the most windows: any of them, bars across each other, and single cells.
func TestGreatest(t *testing.T) {
	c := rand.New(rand.NewPCG(12, 2))
	for _, next := range []func(i int) api.Rect{
		func(int) api.Rect {
			x, y := c.IntN(greatest), c.IntN(greatest)
			return at(x, y, 1+c.IntN(greatest-x), 1+c.IntN(greatest-y))
		},
		func(i int) api.Rect {
			if i%2 == 0 {
				return at(2*i, 0, 1, greatest)
			}
			return at(0, 2*i, greatest, 1)
		},
		func(i int) api.Rect { return at(i*67%greatest, i*31%greatest, 1, 1) },
	} {
		p := pairNew(t, greatest, greatest)
		p.add(0, at(0, 0, greatest, greatest))
		for i := range most - 1 {
			p.add(i, next(i))
		}
		p.seen()
		p.top(c.IntN(most) + 1)
		p.seen()
		want := p.m.owners()
		for range 5000 {
			x, y := c.IntN(greatest), c.IntN(greatest)
			if got := p.s.Owner(x, y); got != want[y*greatest+x] {
				t.Fatalf("Owner(%d, %d) = %d, want %d", x, y, got, want[y*greatest+x])
			}
		}
	}
}

// P12.3: whom Owner names has the cell in Seen, and no other one has, whatever was called.
func TestOwnerSees(t *testing.T) {
	c := rand.New(rand.NewPCG(12, 3))
	for range 30 {
		p := pairNew(t, 9, 7)
		for range 25 {
			p.call(c)
			for x := range 9 {
				for y := range 7 {
					owner := p.s.Owner(x, y)
					for id := range p.m.made + 2 {
						n := 0
						for _, r := range p.s.Seen(id) {
							if rect.In(r, x, y) {
								n++
							}
						}
						if n > 1 || (n == 1) != (id == owner && owner != 0) {
							t.Fatalf("%d, %d is %d's; Seen(%d) has it %d times", x, y, owner, id, n)
						}
					}
				}
			}
		}
	}
}

// R4: what is answered may be written over and appended to, and is not changed by what is called later.
func TestMemory(t *testing.T) {
	p := pairNew(t, 6, 6)
	for i := range 5 {
		p.add(i, at(i, i, 6-i, 1))
	}
	p.add(0, at(1, 0, 2, 6))
	for range 3 {
		all, seen, one := p.s.All(), p.s.Seen(1), p.s.Seen(6)
		a, s, o := slices.Clone(all), slices.Clone(seen), slices.Clone(one)
		p.move(1, at(0, 0, 6, 2))
		p.top(2)
		p.hide(3, true)
		p.drop(5)
		p.add(9, at(5, 5, 1, 1))
		if !slices.Equal(all, a) || !slices.Equal(seen, s) || !slices.Equal(one, o) {
			t.Fatal("what was answered is changed")
		}
		clear(all[:cap(all)])
		clear(seen[:cap(seen)])
		clear(one[:cap(one)])
		_ = append(all, api.Window{Id: 77})
		_ = append(seen, at(7, 7, 7, 7))
		p.whole()
		p.move(1, at(0, 0, 6, 1))
		p.hide(3, false)
	}
}

// R6: the same calls on the same state have the same answers, whatever was asked between.
func TestOneAnswer(t *testing.T) {
	c := rand.New(rand.NewPCG(12, 4))
	for range 100 {
		p, o := pairNew(t, 3, 2), pairNew(t, 3, 2)
		for range 30 {
			call := c.IntN(18)
			p.step(call)
			o.s.Owner(c.IntN(3), c.IntN(2))
			o.s.Seen(c.IntN(5))
			o.s.All()
			o.step(call)
			for id := range p.m.made + 2 {
				if !slices.Equal(p.s.Seen(id), o.s.Seen(id)) || !slices.Equal(p.s.Seen(id), p.s.Seen(id)) {
					t.Fatalf("Seen(%d) has two answers: %v, %v", id, p.s.Seen(id), o.s.Seen(id))
				}
			}
		}
		p.whole()
		o.whole()
	}
}

// P1: no call panics, of what New answers that is no stack, either; such a one has no windows, and nothing is on its screen.
func TestNoStack(t *testing.T) {
	for _, s := range []*stack.Stack{stack.New(0, 1), stack.New(1, 0), stack.New(greatest+1, 1), stack.New(1, greatest+1)} {
		r := at(0, 0, 1, 1)
		_, arg := s.Add(-1, r)
		_, add := s.Add(0, r)
		got := []api.Errno{arg, add, s.Drop(1), s.Top(1), s.Hide(1, true), s.Move(1, r), s.Move(0, api.Rect{})}
		if want := []api.Errno{api.ErrArg, api.ErrRange, api.ErrNone, api.ErrNone, api.ErrNone, api.ErrNone, api.ErrNone}; !slices.Equal(got, want) {
			t.Errorf("the errors are %v, want %v", got, want)
		}
		w, ok := s.Get(0)
		if w != (api.Window{}) || ok || len(s.All()) != 0 || s.Owner(0, 0) != 0 || len(s.Seen(1)) != 0 {
			t.Error("there are windows in none")
		}
	}
}

// P1, R1: every call ends and none panics, at any argument.
func FuzzAll(f *testing.F) {
	f.Add(6, 4, 1, 0, 0, 6, 4, 1, []byte{0, 1, 2, 3, 9, 12, 15, 255})
	f.Add(0, 513, -1, -1, far, far+1, -1, 0, []byte{0, 1, 6, 7, 8})
	f.Add(math.MinInt, math.MaxInt, math.MinInt, math.MaxInt, math.MinInt, math.MaxInt, math.MaxInt, math.MinInt, []byte{})
	f.Fuzz(func(t *testing.T, w, h, env, x, y, rw, rh, id int, calls []byte) {
		if s := stack.New(w, h); (s != nil) != (w >= 1 && w <= greatest && h >= 1 && h <= greatest) {
			t.Fatalf("New(%d, %d) = %v", w, h, s)
		}
		small := func(n int) int { return int(uint(n)%9) + 1 }
		p := pairNew(t, small(w), small(h))
		r := at(x, y, rw, rh)
		p.add(env, r)
		for _, b := range calls {
			p.step(int(b) % 18)
			if b > 200 {
				p.move(id, r)
				p.hide(id, b%2 == 0)
				p.top(id)
			}
		}
		p.move(id, at(small(x)-1, small(y)-1, small(rw), small(rh)))
		p.s.Owner(x, y)
		p.s.Seen(id)
		p.get(id)
		p.drop(id)
		p.whole()
	})
}

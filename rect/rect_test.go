package rect_test

import (
	"math"
	"math/big"
	"math/rand/v2"
	"slices"
	"testing"

	"betony/api"
	"betony/rect"
)

const far = 1 << 30

// none is the empty rectangle.
var none api.Rect

// at is a rectangle by its numbers.
func at(x, y, w, h int) api.Rect { return api.Rect{X: x, Y: y, W: w, H: h} }

// bounds are numbers at all bounds, on either side.
func bounds() []int {
	return []int{math.MinInt, math.MinInt + 1, -far - 1, -far, -far + 1, -1, 0, 1, 2, far - 1, far, far + 1, math.MaxInt - 1, math.MaxInt}
}

// everyOf hands f each rectangle that has its place and size among those.
func everyOf(places, sizes []int, f func(r api.Rect)) {
	for _, x := range places {
		for _, y := range places {
			for _, w := range sizes {
				for _, h := range sizes {
					f(at(x, y, w, h))
				}
			}
		}
	}
}

// wordsSpan tells by the words whether n is one of the size numbers from first on, as exact numbers.
func wordsSpan(n, first, size int) bool {
	end := new(big.Int).Add(big.NewInt(int64(first)), big.NewInt(int64(size)))
	return big.NewInt(int64(first)).Cmp(big.NewInt(int64(n))) <= 0 && big.NewInt(int64(n)).Cmp(end) < 0
}

// wordsIn tells by the words whether r has the cell.
func wordsIn(r api.Rect, x, y int) bool {
	return r.W >= 1 && r.H >= 1 && wordsSpan(x, r.X, r.W) && wordsSpan(y, r.Y, r.H)
}

// wordsRight tells by the words whether r is right.
func wordsRight(r api.Rect) bool {
	for _, n := range []int{r.X, r.Y, r.W, r.H} {
		if n < -far || n > far {
			return false
		}
	}
	return r.W >= 0 && r.H >= 0
}

// cell is a place.
type cell struct{ x, y int }

// cells are those of a small r, row by row.
func cells(r api.Rect) []cell {
	var l []cell
	for y := r.Y; y < r.Y+r.H; y++ {
		for x := r.X; x < r.X+r.W; x++ {
			l = append(l, cell{x, y})
		}
	}
	return l
}

// around is the rectangle around cells, and whether it has no others.
func around(l []cell) (api.Rect, bool) {
	if len(l) == 0 {
		return none, true
	}
	a, b := l[0], l[0]
	for _, c := range l {
		a = cell{min(a.x, c.x), min(a.y, c.y)}
		b = cell{max(b.x, c.x), max(b.y, c.y)}
	}
	r := at(a.x, a.y, b.x-a.x+1, b.y-a.y+1)
	return r, r.W*r.H == len(l)
}

// someOf are the cells of l that f takes.
func someOf(l []cell, f func(c cell) bool) []cell {
	var out []cell
	for _, c := range l {
		if f(c) {
			out = append(out, c)
		}
	}
	return out
}

// P4.1: Right.
func TestRight(t *testing.T) {
	for _, x := range []struct {
		r    api.Rect
		want bool
	}{
		{none, true},
		{at(0, 0, 4, 3), true},
		{at(-far, -far, far, far), true},
		{at(far, far, far, far), true},
		{at(far, far, 0, 0), true},
		{at(5, 6, 0, 3), true},
		{at(5, 6, 3, 0), true},
		{at(-far-1, 0, 1, 1), false},
		{at(0, -far-1, 1, 1), false},
		{at(far+1, 0, 1, 1), false},
		{at(0, far+1, 1, 1), false},
		{at(0, 0, far+1, 1), false},
		{at(0, 0, 1, far+1), false},
		{at(0, 0, -1, 1), false},
		{at(0, 0, 1, -1), false},
		{at(0, 0, -1, -1), false},
		{at(0, 0, -far, 1), false},
		{at(math.MinInt, 0, 1, 1), false},
		{at(0, math.MaxInt, 1, 1), false},
		{at(0, 0, math.MinInt, 1), false},
		{at(0, 0, 1, math.MaxInt), false},
	} {
		if got := rect.Right(x.r); got != x.want {
			t.Errorf("Right(%v) = %v", x.r, got)
		}
	}
}

// P4.1: Empty, of any rectangle.
func TestEmpty(t *testing.T) {
	for _, x := range []struct {
		r    api.Rect
		want bool
	}{
		{none, true},
		{at(3, 4, 1, 1), false},
		{at(3, 4, 0, 1), true},
		{at(3, 4, 1, 0), true},
		{at(3, 4, -1, 1), true},
		{at(3, 4, 1, -1), true},
		{at(3, 4, -5, -5), true},
		{at(0, 0, math.MinInt, math.MaxInt), true},
		{at(math.MaxInt, math.MaxInt, 1, 1), false},
		{at(math.MaxInt, math.MinInt, math.MaxInt, math.MaxInt), false},
		{at(far+1, 0, far+1, 1), false},
	} {
		if got := rect.Empty(x.r); got != x.want {
			t.Errorf("Empty(%v) = %v", x.r, got)
		}
	}
}

// P4.1: In, of any rectangle, as exact numbers.
func TestIn(t *testing.T) {
	for _, x := range []struct {
		r    api.Rect
		x, y int
		want bool
	}{
		{at(1, 2, 4, 3), 1, 2, true},
		{at(1, 2, 4, 3), 4, 4, true},
		{at(1, 2, 4, 3), 5, 4, false},
		{at(1, 2, 4, 3), 4, 5, false},
		{at(1, 2, 4, 3), 0, 2, false},
		{at(1, 2, 4, 3), 1, 1, false},
		{none, 0, 0, false},
		{at(1, 2, 0, 3), 1, 2, false},
		{at(1, 2, 3, 0), 1, 2, false},
		{at(1, 2, -1, 3), 0, 2, false},
		{at(1, 2, -1, 3), 1, 2, false},
		{at(1, 2, -4, -3), -1, 0, false},
		{at(1, 2, math.MinInt, 3), 1, 2, false},
		{at(1, 2, math.MinInt, 3), math.MinInt, 2, false},
		// The end is beyond any int: it doesn't go round.
		{at(math.MaxInt, 0, 5, 1), math.MaxInt, 0, true},
		{at(math.MaxInt, 0, 5, 1), math.MinInt, 0, false},
		{at(math.MaxInt, 0, 5, 1), math.MinInt + 3, 0, false},
		{at(0, math.MaxInt, 1, 5), 0, math.MaxInt, true},
		{at(0, math.MaxInt, 1, 5), 0, math.MinInt, false},
		{at(1<<62, 0, 1<<62, 1), math.MinInt, 0, false},
		{at(1<<62, 0, 1<<62, 1), math.MaxInt, 0, true},
		{at(math.MinInt, 0, 1<<62, 1), math.MinInt, 0, true},
		// How far it is from the beginning is beyond any int.
		{at(math.MinInt, 0, math.MaxInt, 1), -2, 0, true},
		{at(math.MinInt, 0, math.MaxInt, 1), -1, 0, false},
		{at(math.MinInt, 0, math.MaxInt, 1), math.MaxInt, 0, false},
		{at(0, math.MinInt, 1, 5), 0, math.MaxInt, false},
		{at(-1, 0, math.MaxInt, 1), math.MaxInt - 2, 0, true},
		{at(-1, 0, math.MaxInt, 1), math.MaxInt - 1, 0, false},
	} {
		if got := rect.In(x.r, x.x, x.y); got != x.want {
			t.Errorf("In(%v, %d, %d) = %v", x.r, x.x, x.y, got)
		}
	}
}

// P4.1: Right, Empty, In and Area, of numbers at all bounds.
func TestBounds(t *testing.T) {
	l := bounds()
	c := rand.New(rand.NewPCG(4, 1))
	everyOf(l, l, func(r api.Rect) {
		want := 0
		if wordsRight(r) {
			want = r.W * r.H
		}
		if rect.Right(r) != wordsRight(r) || rect.Empty(r) != (r.W < 1 || r.H < 1) || rect.Area(r) != want {
			t.Fatalf("%v: Right %v, Empty %v, Area %d", r, rect.Right(r), rect.Empty(r), rect.Area(r))
		}
		for range 4 {
			x, y := nearTo(c, r.X, r.W), nearTo(c, r.Y, r.H)
			if rect.In(r, x, y) != wordsIn(r, x, y) {
				t.Fatalf("In(%v, %d, %d) = %v", r, x, y, rect.In(r, x, y))
			}
		}
	})
}

// nearTo is a number at the beginning or end of a span, or at a bound; it may go round.
func nearTo(c *rand.Rand, first, size int) int {
	switch l := bounds(); c.IntN(3) {
	case 0:
		return first + c.IntN(3) - 1
	case 1:
		return first + size + c.IntN(3) - 1
	default:
		return l[c.IntN(len(l))]
	}
}

// P4.1: Both.
func TestBoth(t *testing.T) {
	a := at(0, 0, 4, 3)
	for _, x := range []struct{ a, b, want api.Rect }{
		{a, a, a},
		{a, at(2, 1, 9, 9), at(2, 1, 2, 2)},
		{a, at(-5, -5, 6, 7), at(0, 0, 1, 2)},
		{a, at(1, 1, 1, 1), at(1, 1, 1, 1)},
		{a, at(4, 0, 1, 1), none},
		{a, at(0, 3, 1, 1), none},
		{a, at(-1, 0, 1, 1), none},
		{a, at(9, 9, 1, 1), none},
		{a, none, none},
		{a, at(1, 1, 0, 2), none},
		{a, at(1, 1, 2, 0), none},
		{at(1, 1, 0, 0), at(1, 1, 0, 0), none},
		{at(far, far, far, far), at(far, far, far, far), at(far, far, far, far)},
		{at(-far, -far, far, far), at(-1, -1, far, far), at(-1, -1, 1, 1)},
		// One that isn't right.
		{a, at(0, 0, far+1, 3), none},
		{a, at(-far-1, 0, far, 3), none},
		{a, at(0, 0, -1, 3), none},
		{at(far+1, 0, 1, 1), at(far+1, 0, 1, 1), none},
		{a, at(0, 0, math.MaxInt, math.MaxInt), none},
		{a, at(math.MinInt, math.MinInt, math.MaxInt, math.MaxInt), none},
	} {
		if got := rect.Both(x.a, x.b); got != x.want {
			t.Errorf("Both(%v, %v) = %v, want %v", x.a, x.b, got, x.want)
		}
		if got := rect.Both(x.b, x.a); got != x.want {
			t.Errorf("Both(%v, %v) = %v, want %v", x.b, x.a, got, x.want)
		}
	}
}

// P4.1: Has.
func TestHas(t *testing.T) {
	a := at(0, 0, 4, 3)
	for _, x := range []struct {
		a, b api.Rect
		want bool
	}{
		{a, a, true},
		{a, at(3, 2, 1, 1), true},
		{a, at(3, 2, 2, 1), false},
		{a, at(3, 2, 1, 2), false},
		{a, at(-1, 0, 2, 1), false},
		{a, at(0, -1, 1, 2), false},
		{at(3, 2, 1, 1), a, false},
		{a, at(9, 9, 1, 1), false},
		// One without cells is in any, and has none.
		{a, at(9, 9, 0, 5), true},
		{a, none, true},
		{none, none, true},
		{at(1, 1, 0, 5), at(7, 7, 5, 0), true},
		{none, at(0, 0, 1, 1), false},
		{at(0, 0, 0, 9), at(0, 0, 1, 1), false},
		{at(far, 0, far, 1), at(far, 0, far, 1), true},
		// One that isn't right, with cells or without.
		{a, at(1, 1, -1, 1), false},
		{a, at(far+1, 0, 0, 0), false},
		{at(far+1, 0, 0, 0), none, false},
		{at(0, 0, -1, 5), none, false},
		{at(0, 0, far+1, 9), at(0, 0, 1, 1), false},
		{at(0, 0, far+1, 9), at(0, 0, far+1, 9), false},
	} {
		if got := rect.Has(x.a, x.b); got != x.want {
			t.Errorf("Has(%v, %v) = %v", x.a, x.b, got)
		}
	}
}

// P4.1: Area.
func TestArea(t *testing.T) {
	for _, x := range []struct {
		r    api.Rect
		want int
	}{
		{at(0, 0, 4, 3), 12},
		{at(-9, 7, 1, 1), 1},
		{none, 0},
		{at(1, 1, 0, 5), 0},
		{at(1, 1, 5, 0), 0},
		{at(far, -far, far, far), 1 << 60},
		{at(0, 0, -1, -1), 0},
		{at(0, 0, far+1, 1), 0},
		{at(far+1, 0, 2, 2), 0},
		{at(0, -far-1, 2, 2), 0},
		{at(0, 0, math.MaxInt, math.MaxInt), 0},
	} {
		if got := rect.Area(x.r); got != x.want {
			t.Errorf("Area(%v) = %d, want %d", x.r, got, x.want)
		}
	}
}

// P4.1: Less.
func TestLess(t *testing.T) {
	a := at(0, 0, 4, 3)
	for _, x := range []struct {
		a, b api.Rect
		want []api.Rect
	}{
		{a, at(1, 1, 1, 1), []api.Rect{at(0, 0, 4, 1), at(0, 1, 1, 1), at(2, 1, 2, 1), at(0, 2, 4, 1)}},
		{a, a, nil},
		{a, at(-9, -9, 99, 99), nil},
		{a, at(0, 0, 4, 1), []api.Rect{at(0, 1, 4, 2)}},
		{a, at(0, 2, 4, 1), []api.Rect{at(0, 0, 4, 2)}},
		{a, at(0, 0, 1, 3), []api.Rect{at(1, 0, 3, 3)}},
		{a, at(3, 0, 1, 3), []api.Rect{at(0, 0, 3, 3)}},
		{a, at(-2, -2, 3, 3), []api.Rect{at(1, 0, 3, 1), at(0, 1, 4, 2)}},
		{a, at(3, 2, 9, 9), []api.Rect{at(0, 0, 4, 2), at(0, 2, 3, 1)}},
		{a, at(1, -1, 2, 9), []api.Rect{at(0, 0, 1, 3), at(3, 0, 1, 3)}},
		{a, at(-1, 1, 9, 1), []api.Rect{at(0, 0, 4, 1), at(0, 2, 4, 1)}},
		// No cell in common: a alone.
		{a, at(9, 9, 1, 1), []api.Rect{a}},
		{a, at(4, 0, 1, 3), []api.Rect{a}},
		{a, none, []api.Rect{a}},
		{a, at(1, 1, 0, 1), []api.Rect{a}},
		{a, at(1, 1, 1, 0), []api.Rect{a}},
		// None of one without cells.
		{none, a, nil},
		{none, none, nil},
		{at(9, 9, 0, 5), a, nil},
		{at(9, 9, 5, 0), a, nil},
		// What stands behind may begin beyond Far.
		{at(far, far, 3, 3), at(far, far, 1, 1), []api.Rect{at(far+1, far, 2, 1), at(far, far+1, 3, 2)}},
		{at(-far, -far, far, far), at(-1, -1, 1, 1), []api.Rect{at(-far, -far, far, far-1), at(-far, -1, far-1, 1)}},
		// One that isn't right.
		{a, at(1, 1, far+1, 1), nil},
		{a, at(1, 1, -1, 1), nil},
		{a, at(far+1, 0, 1, 1), nil},
		{at(0, 0, far+1, 1), at(1, 1, 1, 1), nil},
		{at(far+1, 0, 1, 1), none, nil},
		{at(0, 0, math.MaxInt, math.MaxInt), at(0, 0, 1, 1), nil},
	} {
		if got := rect.Less(x.a, x.b); !slices.Equal(got, x.want) {
			t.Errorf("Less(%v, %v) = %v, want %v", x.a, x.b, got, x.want)
		}
	}
}

// P4.2: Split.
func TestSplit(t *testing.T) {
	a := at(1, 2, 4, 3)
	for _, x := range []struct {
		r           api.Rect
		upright     bool
		n           int
		first, rest api.Rect
	}{
		{a, true, 1, at(1, 2, 1, 3), at(2, 2, 3, 3)},
		{a, true, 3, at(1, 2, 3, 3), at(4, 2, 1, 3)},
		{a, false, 1, at(1, 2, 4, 1), at(1, 3, 4, 2)},
		{a, false, 2, at(1, 2, 4, 2), at(1, 4, 4, 1)},
		{a, true, 0, none, a},
		{a, false, 0, none, a},
		{a, true, -1, none, a},
		{a, false, math.MinInt, none, a},
		{a, true, 4, a, none},
		{a, false, 3, a, none},
		{a, true, 5, a, none},
		{a, false, 9, a, none},
		{a, true, math.MaxInt, a, none},
		{a, false, math.MaxInt, a, none},
		{none, true, 1, none, none},
		{at(5, 6, 0, 3), true, 0, none, none},
		{at(5, 6, 0, 3), false, 1, none, none},
		{at(5, 6, 3, 0), true, 1, none, none},
		{at(5, 6, 3, 0), false, 1, none, none},
		{at(far, 0, 10, 1), true, 3, at(far, 0, 3, 1), at(far+3, 0, 7, 1)},
		{at(0, far, 1, far), false, far - 1, at(0, far, 1, far-1), at(0, 2*far-1, 1, 1)},
		// One that isn't right.
		{at(0, 0, far+1, 1), true, 1, none, none},
		{at(0, 0, 1, far+1), false, 1, none, none},
		{at(far+1, 0, 2, 2), true, 1, none, none},
		{at(0, -far-1, 2, 2), false, 1, none, none},
		{at(0, 0, -1, 2), false, 1, none, none},
		{at(0, 0, 2, -1), true, 1, none, none},
		{at(math.MaxInt, 0, math.MaxInt, 2), true, math.MaxInt, none, none},
	} {
		if first, rest := rect.Split(x.r, x.upright, x.n); first != x.first || rest != x.rest {
			t.Errorf("Split(%v, %v, %d) = %v, %v, want %v, %v", x.r, x.upright, x.n, first, rest, x.first, x.rest)
		}
	}
}

// P4.2: Join, in either order.
func TestJoin(t *testing.T) {
	a := at(1, 2, 4, 3)
	for _, x := range []struct{ a, b, want api.Rect }{
		{a, at(5, 2, 1, 3), at(1, 2, 5, 3)},
		{a, at(-1, 2, 2, 3), at(-1, 2, 6, 3)},
		{a, at(1, 5, 4, 2), at(1, 2, 4, 5)},
		{a, at(1, 0, 4, 2), at(1, 0, 4, 5)},
		{at(0, 0, 1, 1), at(1, 0, 1, 1), at(0, 0, 2, 1)},
		{at(-far, 0, far-1, 1), at(-1, 0, 1, 1), at(-far, 0, far, 1)},
		{at(far-1, 0, 1, 1), at(far, 0, far-1, 1), at(far-1, 0, far, 1)},
		{at(0, -far, 1, far-1), at(0, -1, 1, 1), at(0, -far, 1, far)},
		// Not one rectangle together.
		{a, at(5, 2, 1, 2), none},
		{a, at(5, 3, 1, 3), none},
		{a, at(6, 2, 1, 3), none},
		{a, at(5, 5, 1, 1), none},
		{a, at(1, 5, 3, 1), none},
		{a, at(2, 5, 4, 1), none},
		{a, at(1, 6, 4, 1), none},
		{a, at(9, 9, 1, 1), none},
		// A cell in common.
		{a, a, none},
		{a, at(2, 3, 1, 1), none},
		{a, at(4, 2, 2, 3), none},
		{a, at(1, 4, 4, 2), none},
		// No cells.
		{a, none, none},
		{a, at(5, 2, 0, 3), none},
		{a, at(1, 5, 4, 0), none},
		{none, none, none},
		{at(1, 1, 0, 1), at(1, 1, 0, 2), none},
		// What they would be isn't right.
		{at(-far, 0, far, 1), at(0, 0, 1, 1), none},
		{at(0, -far, 1, far), at(0, 0, 1, 1), none},
		{at(0, 0, far, 1), at(far, 0, far, 1), none},
		// One of them isn't right.
		{at(far, 0, 3, 1), at(far+3, 0, 7, 1), none},
		{at(0, far, 1, 1), at(0, far+1, 1, 1), none},
		{at(-far-1, 0, 1, 1), at(-far, 0, 1, 1), none},
		{at(0, 0, far+1, 1), at(far+1, 0, 1, 1), none},
		{a, at(5, 2, -1, 3), none},
		{at(5, 2, -4, 3), at(5, 2, 4, 3), none},
		{at(0, 0, math.MaxInt, 1), at(math.MaxInt, 0, math.MaxInt, 1), none},
	} {
		for _, o := range [][2]api.Rect{{x.a, x.b}, {x.b, x.a}} {
			if got, ok := rect.Join(o[0], o[1]); got != x.want || ok != (x.want != none) {
				t.Errorf("Join(%v, %v) = %v, %v, want %v", o[0], o[1], got, ok, x.want)
			}
		}
	}
}

// small are rectangles of few cells, side by side and one in the other, some of them not right.
func small() []api.Rect {
	var l []api.Rect
	everyOf([]int{-1, 0, 1}, []int{-1, 0, 1, 2, 3}, func(r api.Rect) { l = append(l, r) })
	return l
}

// wordsLess are by the words the cells of a that aren't in b: all that are above it, left, right, below.
func wordsLess(a, b api.Rect) []api.Rect {
	l := cells(a)
	if len(someOf(l, func(c cell) bool { return wordsIn(b, c.x, c.y) })) == 0 {
		r, _ := around(l)
		return slices.DeleteFunc([]api.Rect{r}, func(r api.Rect) bool { return r == none })
	}
	beside := func(c cell) bool { return b.Y <= c.y && c.y < b.Y+b.H }
	var out []api.Rect
	for _, f := range []func(c cell) bool{
		func(c cell) bool { return c.y < b.Y },
		func(c cell) bool { return beside(c) && c.x < b.X },
		func(c cell) bool { return beside(c) && c.x >= b.X+b.W },
		func(c cell) bool { return c.y >= b.Y+b.H },
	} {
		if r, _ := around(someOf(l, f)); r != none {
			out = append(out, r)
		}
	}
	return out
}

// wordsJoin is by the words the rectangle that has just the cells of two small ones.
func wordsJoin(a, b api.Rect) (api.Rect, bool) {
	l := slices.Concat(cells(a), cells(b))
	both := someOf(cells(a), func(c cell) bool { return wordsIn(b, c.x, c.y) })
	r, whole := around(l)
	if len(cells(a)) == 0 || len(cells(b)) == 0 || len(both) > 0 || !whole {
		return none, false
	}
	return r, true
}

// P4.1, P4.2: two small ones, cell by cell.
func TestSmall(t *testing.T) {
	l := small()
	for _, a := range l {
		for _, b := range l {
			checkSmall(t, a, b)
		}
	}
}

// checkSmall holds the answers of two small ones against their cells.
func checkSmall(t *testing.T, a, b api.Rect) {
	t.Helper()
	both, has, less, join, ok := none, false, []api.Rect(nil), none, false
	if wordsRight(a) && wordsRight(b) {
		common := someOf(cells(a), func(c cell) bool { return wordsIn(b, c.x, c.y) })
		both, _ = around(common)
		has = len(common) == len(cells(b))
		less = wordsLess(a, b)
		join, ok = wordsJoin(a, b)
	}
	if got := rect.Both(a, b); got != both {
		t.Fatalf("Both(%v, %v) = %v, want %v", a, b, got, both)
	}
	if got := rect.Has(a, b); got != has {
		t.Fatalf("Has(%v, %v) = %v", a, b, got)
	}
	if got := rect.Less(a, b); !slices.Equal(got, less) {
		t.Fatalf("Less(%v, %v) = %v, want %v", a, b, got, less)
	}
	if got, was := rect.Join(a, b); got != join || was != ok {
		t.Fatalf("Join(%v, %v) = %v, %v, want %v, %v", a, b, got, was, join, ok)
	}
}

// P4.1, P4.2: one small one, cell by cell.
func TestSmallAlone(t *testing.T) {
	for _, r := range small() {
		for y := -3; y < 6; y++ {
			for x := -3; x < 6; x++ {
				if rect.In(r, x, y) != slices.Contains(cells(r), cell{x, y}) {
					t.Fatalf("In(%v, %d, %d)", r, x, y)
				}
			}
		}
		l := cells(r)
		if !wordsRight(r) {
			l = nil
		}
		if rect.Area(r) != len(l) {
			t.Fatalf("Area(%v) = %d", r, rect.Area(r))
		}
		for n := -2; n < 6; n++ {
			checkSplitCells(t, r, l, n)
		}
	}
}

// checkSplitCells holds Split of r, with the cells l, against them.
func checkSplitCells(t *testing.T, r api.Rect, l []cell, n int) {
	t.Helper()
	for upright, f := range map[bool]func(c cell) bool{
		true:  func(c cell) bool { return c.x-r.X < n },
		false: func(c cell) bool { return c.y-r.Y < n },
	} {
		first, _ := around(someOf(l, f))
		rest, _ := around(someOf(l, func(c cell) bool { return !f(c) }))
		if a, b := rect.Split(r, upright, n); a != first || b != rest {
			t.Fatalf("Split(%v, %v, %d) = %v, %v, want %v, %v", r, upright, n, a, b, first, rest)
		}
	}
}

// anyRect is a rectangle of any kind: small, about another one's bounds, or far outside.
func anyRect(c *rand.Rand, b api.Rect) api.Rect {
	l := bounds()
	number := func(first, size int) int {
		switch c.IntN(6) {
		case 0:
			return l[c.IntN(len(l))]
		case 1:
			return c.IntN(2*far+1) - far
		case 2:
			return first + c.IntN(3) - 1
		case 3:
			return first + size + c.IntN(3) - 1
		default:
			return c.IntN(9) - 1
		}
	}
	r := at(number(b.X, b.W), number(b.Y, b.H), number(b.W, -b.X), number(b.H, -b.Y))
	switch c.IntN(3) {
	case 0: // as high, in the same rows
		r.Y, r.H = b.Y, b.H
	case 1:
		r.X, r.W = b.X, b.W
	}
	return r
}

// somePlaces are numbers at the bounds of both spans, on either side.
func somePlaces(first, size, other, others int) []int {
	var l []int
	for _, n := range []int{first, first + size, other, other + others} {
		l = append(l, n-1, n, n+1)
	}
	return l
}

// checkOnce holds P4.3: Less and Both have each cell of a once, and no others.
func checkOnce(t *testing.T, a, b api.Rect) {
	t.Helper()
	l := rect.Less(a, b)
	both := rect.Both(a, b)
	if both != none {
		l = append(l, both)
	}
	area := 0
	for _, r := range l {
		if r.W < 1 || r.H < 1 {
			t.Fatalf("Less(%v, %v) has %v", a, b, r)
		}
		area += r.W * r.H
	}
	if area != a.W*a.H {
		t.Fatalf("Less and Both of %v, %v have %d cells: %v", a, b, area, l)
	}
	for _, y := range somePlaces(a.Y, a.H, b.Y, b.H) {
		for _, x := range somePlaces(a.X, a.W, b.X, b.W) {
			n := 0
			for _, r := range l {
				if wordsIn(r, x, y) {
					n++
				}
			}
			if (n == 1) != wordsIn(a, x, y) || n > 1 || wordsIn(both, x, y) != (wordsIn(a, x, y) && wordsIn(b, x, y)) {
				t.Fatalf("Less and Both of %v, %v have (%d, %d) %d times: %v", a, b, x, y, n, l)
			}
		}
	}
}

// checkJoin holds Join of right ones against the one around both.
func checkJoin(t *testing.T, a, b api.Rect) {
	t.Helper()
	x, y := min(a.X, b.X), min(a.Y, b.Y)
	whole := at(x, y, max(a.X+a.W, b.X+b.W)-x, max(a.Y+a.H, b.Y+b.H)-y)
	want := a.W*a.H > 0 && b.W*b.H > 0 && rect.Both(a, b) == none && wordsRight(whole) && whole.W*whole.H == a.W*a.H+b.W*b.H
	if !want {
		whole = none
	}
	if got, ok := rect.Join(a, b); got != whole || ok != want {
		t.Fatalf("Join(%v, %v) = %v, %v, want %v, %v", a, b, got, ok, whole, want)
	}
}

// checkSplit holds P4.3: what is split is joined again, unless a part has no cells or isn't right.
func checkSplit(t *testing.T, r api.Rect, upright bool, n int) {
	t.Helper()
	first, rest := rect.Split(r, upright, n)
	switch {
	case !wordsRight(r) || r.W == 0 || r.H == 0:
		if first != none || rest != none {
			t.Fatalf("Split(%v, %v, %d) = %v, %v", r, upright, n, first, rest)
		}
		return
	case first == none && rest == r || first == r && rest == none:
		if upright && n > 0 && n < r.W || !upright && n > 0 && n < r.H {
			t.Fatalf("Split(%v, %v, %d) = %v, %v", r, upright, n, first, rest)
		}
		return
	}
	if upright && first.W != n || !upright && first.H != n || first.X != r.X || first.Y != r.Y || rest == none {
		t.Fatalf("Split(%v, %v, %d) = %v, %v", r, upright, n, first, rest)
	}
	want := r
	if !wordsRight(rest) {
		want = none
	}
	for _, o := range [][2]api.Rect{{first, rest}, {rest, first}} {
		if got, ok := rect.Join(o[0], o[1]); got != want || ok != (want != none) {
			t.Fatalf("Split(%v, %v, %d) = %v, %v; joined %v, %v", r, upright, n, first, rest, got, ok)
		}
	}
}

// checkAll holds what is promised of any two rectangles.
func checkAll(t *testing.T, a, b api.Rect, n int) {
	t.Helper()
	for _, upright := range []bool{true, false} {
		checkSplit(t, a, upright, n)
		checkSplit(t, b, upright, n)
	}
	if wordsRight(a) && wordsRight(b) {
		checkOnce(t, a, b)
		checkJoin(t, a, b)
		if rect.Has(a, b) != (b.W*b.H == 0 || len(rect.Less(b, a)) == 0) {
			t.Fatalf("Has(%v, %v) = %v", a, b, rect.Has(a, b))
		}
		return
	}
	r, ok := rect.Join(a, b)
	if rect.Both(a, b) != none || rect.Has(a, b) || len(rect.Less(a, b)) != 0 || r != none || ok {
		t.Fatalf("%v, %v: one isn't right", a, b)
	}
}

// P4.1 to P4.3: rectangles of any kind, at all bounds.
func TestAny(t *testing.T) {
	c := rand.New(rand.NewPCG(4, 2))
	l := bounds()
	for range 50000 {
		a := anyRect(c, none)
		b := anyRect(c, a)
		for _, n := range []int{l[c.IntN(len(l))], c.IntN(far), c.IntN(4), a.W - 1, a.H, a.H + 1} {
			checkAll(t, a, b, n)
		}
	}
}

// P4.3: what is split is joined again.
func TestSplitAndJoin(t *testing.T) {
	c := rand.New(rand.NewPCG(4, 3))
	for range 20000 {
		r := at(c.IntN(far)-far, c.IntN(far)-far, 2+c.IntN(far-1), 2+c.IntN(far-1))
		upright, n := c.IntN(2) == 0, 0
		if upright {
			n = 1 + c.IntN(r.W-1)
		} else {
			n = 1 + c.IntN(r.H-1)
		}
		first, rest := rect.Split(r, upright, n)
		if got, ok := rect.Join(first, rest); !ok || got != r {
			t.Fatalf("Split(%v, %v, %d) = %v, %v; joined %v, %v", r, upright, n, first, rest, got, ok)
		}
		if rect.Area(first)+rect.Area(rest) != rect.Area(r) {
			t.Fatalf("Split(%v, %v, %d) = %v, %v", r, upright, n, first, rest)
		}
	}
}

// R4: what is answered may be written over, and nothing else changes by it.
func TestMemory(t *testing.T) {
	a, b := at(0, 0, 4, 3), at(1, 1, 1, 1)
	want := []api.Rect{at(0, 0, 4, 1), at(0, 1, 1, 1), at(2, 1, 2, 1), at(0, 2, 4, 1)}
	first, second := rect.Less(a, b), rect.Less(a, b)
	clear(first)
	_ = append(first[:0], at(7, 7, 7, 7))
	if !slices.Equal(second, want) || !slices.Equal(rect.Less(a, b), want) {
		t.Errorf("Less(%v, %v) is changed: %v", a, b, second)
	}
	alone := rect.Less(a, none)
	alone[0] = at(7, 7, 7, 7)
	if got := rect.Less(a, none); !slices.Equal(got, []api.Rect{a}) {
		t.Errorf("Less(%v, %v) = %v", a, none, got)
	}
}

// answers are all answers of two rectangles.
type answers struct {
	both, first, rest, join api.Rect
	has, in, ok             bool
	area                    int
}

// ask asks all calls but Less.
func ask(a, b api.Rect, n int) answers {
	var s answers
	s.both, s.has, s.in, s.area = rect.Both(a, b), rect.Has(a, b), rect.In(a, b.X, b.Y), rect.Area(a)
	s.first, s.rest = rect.Split(a, n%2 == 0, n)
	s.join, s.ok = rect.Join(a, b)
	return s
}

// R6: the same call has the same answer, whatever was asked between.
func TestOneAnswer(t *testing.T) {
	c := rand.New(rand.NewPCG(4, 4))
	for range 2000 {
		a := anyRect(c, none)
		b, n := anyRect(c, a), c.IntN(40)-2
		was, less := ask(a, b, n), rect.Less(a, b)
		other := anyRect(c, b)
		ask(b, other, n)
		rect.Less(other, b)
		if ask(a, b, n) != was || !slices.Equal(rect.Less(a, b), less) {
			t.Fatalf("%v, %v have two answers", a, b)
		}
	}
}

// P1, R1: every call ends and none panics, at any argument.
func FuzzAll(f *testing.F) {
	f.Add(0, 0, 4, 3, 1, 1, 1, 1, 1)
	f.Add(0, 0, 1, 3, 1, 0, 3, 3, -1)
	f.Add(far, far, far, far, -far, -far, far, far, far-1)
	f.Add(math.MinInt, math.MaxInt, math.MinInt, math.MaxInt, math.MaxInt, math.MaxInt, math.MaxInt, math.MaxInt, math.MinInt)
	f.Fuzz(func(t *testing.T, ax, ay, aw, ah, bx, by, bw, bh, n int) {
		a, b := at(ax, ay, aw, ah), at(bx, by, bw, bh)
		checkAll(t, a, b, n)
		checkAll(t, b, a, n)
		if rect.Right(a) != wordsRight(a) || rect.Empty(a) != (aw < 1 || ah < 1) || rect.In(a, bx, by) != wordsIn(a, bx, by) {
			t.Fatalf("%v: Right %v, Empty %v, In %d, %d: %v", a, rect.Right(a), rect.Empty(a), bx, by, rect.In(a, bx, by))
		}
	})
}

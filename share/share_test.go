package share_test

import (
	"math"
	"math/rand/v2"
	"slices"
	"testing"

	"betony/api"
	"betony/share"
)

const (
	least    = math.SmallestNonzeroFloat64
	greatest = math.MaxFloat64
	normal   = 0x1p-1022 // the least one that is not subnormal
)

var (
	inf   = math.Inf(1)
	below = math.Inf(-1)
	minus = math.Copysign(0, -1)
	nan   = math.NaN()
)

// nans are numbers that aren't numbers, of all kinds: quiet, signalling, with either sign.
func nans() []float64 {
	l := []float64{nan, -nan}
	for _, b := range []uint64{0x7ff0000000000001, 0x7ff8000000000000, 0x7fffffffffffffff, 0xfff0000000000001, 0xfff8000000000000, 0xffffffffffffffff} {
		l = append(l, math.Float64frombits(b))
	}
	return l
}

// rising are numbers, each ahead of the next one.
func rising() []float64 {
	return []float64{below, -greatest, -2, -1, -0.5, -normal, -2 * least, -least, minus, 0, least, 2 * least, normal, 0.5, 1, math.Nextafter(1, 2), 2, greatest, inf}
}

// edges are rising's numbers, and what isn't a number.
func edges() []float64 { return append(rising(), nans()...) }

// alike tells whether the numbers are the same, bit by bit.
func alike(a, b float64) bool { return math.Float64bits(a) == math.Float64bits(b) }

func allAlike(a, b []float64) bool { return slices.EqualFunc(a, b, alike) }

// ones is k times w.
func ones(k int, w float64) []float64 { return slices.Repeat([]float64{w}, k) }

// chance makes lists of weights, the same ones each time.
type chance struct{ r *rand.Rand }

func newChance(seed uint64) chance { return chance{rand.New(rand.NewPCG(seed, 11))} }

// plain is a weight of the size of everyday ones.
func (c chance) plain() float64 {
	if c.r.IntN(3) == 0 {
		return float64(1 + c.r.IntN(9))
	}
	return math.Ldexp(0.5+c.r.Float64()/2, c.r.IntN(8)-4)
}

// any is a weight of any kind.
func (c chance) any() float64 {
	l := edges()
	switch c.r.IntN(4) {
	case 0:
		return l[c.r.IntN(len(l))]
	case 1:
		return math.Float64frombits(c.r.Uint64())
	}
	return c.plain()
}

func (c chance) list(most int, one func() float64) []float64 {
	w := make([]float64, 1+c.r.IntN(most))
	for i := range w {
		w[i] = one()
	}
	return w
}

// wordsTogether is what weights count together, written as the chapter's words go.
func wordsTogether(w []float64) []float64 {
	top, infinite := 0.0, false
	for _, x := range w {
		infinite = infinite || x == inf
		if x > top {
			top = x
		}
	}
	out := make([]float64, len(w))
	for i, x := range w {
		switch {
		case infinite && x == inf, !infinite && top == 0:
			out[i] = 1
		case !infinite && x > 0:
			out[i] = x / top
		}
	}
	return out
}

// wordsShares are the shares, and the quotas, written as the chapter's words go.
func wordsShares(n int, w []float64) (out []int, quotas []float64) {
	t := wordsTogether(w)
	sum := float64(0)
	for _, c := range t {
		sum = sum + c
	}
	out, quotas = make([]int, len(w)), make([]float64, len(w))
	left := n
	for i, c := range t {
		product := float64(n) * c
		quotas[i] = product / sum
		out[i] = min(int(quotas[i]), left)
		left -= out[i]
	}
	got := make([]bool, len(w))
	for left > 0 {
		if !slices.Contains(got, false) {
			clear(got)
		}
		best := -1
		for i, q := range quotas {
			if !got[i] && (best < 0 || q-math.Trunc(q) > quotas[best]-math.Trunc(quotas[best])) {
				best = i
			}
		}
		got[best] = true
		out[best]++
		left--
	}
	return out, quotas
}

// P1.1: Order of any two numbers whose places are known.
func TestOrder(t *testing.T) {
	l := rising()
	for i, a := range l {
		for k, b := range l {
			want := 0
			if i < k {
				want = -1
			} else if i > k {
				want = 1
			}
			if got := share.Order(a, b); got != want {
				t.Errorf("Order(%v, %v) = %d, want %d", a, b, got, want)
			}
			if got := share.Same(a, b); got != (i == k) {
				t.Errorf("Same(%v, %v) = %v", a, b, got)
			}
		}
	}
}

// P1.1: what isn't a number stands behind all, and all of that are the same.
func TestOrderOfNoNumbers(t *testing.T) {
	for _, x := range nans() {
		for _, a := range rising() {
			if share.Order(a, x) != -1 || share.Order(x, a) != 1 {
				t.Errorf("%v isn't ahead of %x", a, math.Float64bits(x))
			}
			if share.Same(a, x) || share.Same(x, a) {
				t.Errorf("%v is the same as %x", a, math.Float64bits(x))
			}
		}
		for _, y := range nans() {
			if share.Order(x, y) != 0 || !share.Same(x, y) {
				t.Errorf("%x and %x aren't the same", math.Float64bits(x), math.Float64bits(y))
			}
		}
	}
}

// P1.1: a list that is sorted by Order stands in its places again.
func TestOrderSorts(t *testing.T) {
	want := append(rising(), nan)
	got := slices.Clone(want)
	slices.Reverse(got)
	slices.SortFunc(got, share.Order)
	if !slices.EqualFunc(got, want, share.Same) {
		t.Errorf("sorted: %v", got)
	}
}

// P1.1: Count.
func TestCount(t *testing.T) {
	for _, x := range edges() {
		want := 0.0
		if x > 0 {
			want = x
		}
		if got := share.Count(x); !alike(got, want) {
			t.Errorf("Count(%v) = %v, want %v", x, got, want)
		}
	}
}

// P1.1: Together, of lists whose answers are known.
func TestTogether(t *testing.T) {
	for _, x := range []struct{ w, want []float64 }{
		{[]float64{1, 2}, []float64{0.5, 1}},
		{[]float64{3}, []float64{1}},
		{[]float64{1, 3, 2}, []float64{1.0 / 3, 1, 2.0 / 3}},
		{[]float64{4, nan, -4, 1, minus, below}, []float64{1, 0, 0, 0.25, 0, 0}},
		{[]float64{nan}, []float64{1}},
		{[]float64{-1, 0, minus, nan, below}, []float64{1, 1, 1, 1, 1}},
		{[]float64{inf}, []float64{1}},
		{[]float64{greatest, inf, nan, inf, 1, -1}, []float64{0, 1, 0, 1, 0, 0}},
		{[]float64{below, inf}, []float64{0, 1}},
		{[]float64{greatest, greatest, greatest / 2}, []float64{1, 1, 0.5}},
		{[]float64{least, greatest}, []float64{0, 1}},
		{[]float64{least, 2 * least}, []float64{0.5, 1}},
		{[]float64{least, -inf, 0}, []float64{1, 0, 0}},
		{[]float64{normal, least}, []float64{1, 0x1p-52}},
	} {
		if got := share.Together(x.w); !allAlike(got, x.want) {
			t.Errorf("Together(%v) = %v, want %v", x.w, got, x.want)
		}
	}
}

// P1.1: how many weights there may be.
func TestHowManyWeights(t *testing.T) {
	for _, x := range []struct{ parts, want int }{{0, 0}, {1, 1}, {63, 63}, {64, 64}, {65, 0}, {66, 0}, {1000, 0}} {
		for _, w := range edges() {
			if got := share.Together(ones(x.parts, w)); !allAlike(got, ones(x.want, 1)) {
				t.Errorf("Together of %d times %v: %v", x.parts, w, got)
			}
			if got := share.Shares(64, ones(x.parts, w)); len(got) != x.want {
				t.Errorf("Shares of %d times %v: %v", x.parts, w, got)
			}
		}
	}
	if share.Together(nil) != nil || len(share.Together([]float64{})) != 0 {
		t.Error("Together of no weights")
	}
	if len(share.Shares(5, nil)) != 0 || len(share.Shares(0, []float64{})) != 0 {
		t.Error("Shares of no weights")
	}
}

// P1.1: how many cells there may be.
func TestHowManyCells(t *testing.T) {
	for _, n := range []int{-1, -2, -513, math.MinInt, 513, 514, 1 << 32, math.MaxInt} {
		for _, w := range edges() {
			if got := share.Shares(n, []float64{w, 1}); len(got) != 0 {
				t.Errorf("Shares(%d, %v and 1) = %v", n, w, got)
			}
		}
	}
	for _, x := range []struct {
		n    int
		want []int
	}{{0, []int{0, 0}}, {1, []int{0, 1}}, {511, []int{128, 383}}, {512, []int{128, 384}}} {
		if got := share.Shares(x.n, []float64{1, 3}); !slices.Equal(got, x.want) {
			t.Errorf("Shares(%d, 1 and 3) = %v, want %v", x.n, got, x.want)
		}
	}
}

// P1.1: Shares, of lists whose answers are known.
func TestShares(t *testing.T) {
	for _, x := range []struct {
		n    int
		w    []float64
		want []int
	}{
		{10, []float64{1, 2, nan}, []int{3, 7, 0}},
		{10, []float64{inf, 5}, []int{10, 0}},
		{10, []float64{5, inf}, []int{0, 10}},
		{9, []float64{inf, greatest, inf}, []int{5, 0, 4}},
		{7, []float64{1}, []int{7}},
		{7, []float64{nan}, []int{7}},
		{7, []float64{nan, -1}, []int{4, 3}},
		{8, []float64{minus, 0, below}, []int{3, 3, 2}},
		{2, []float64{1, 1, 1}, []int{1, 1, 0}},
		{5, []float64{1, 1, 1}, []int{2, 2, 1}},
		{5, []float64{1, 0, 1}, []int{3, 0, 2}},
		{3, []float64{0, 0, 1}, []int{0, 0, 3}},
		{4, []float64{greatest, greatest}, []int{2, 2}},
		{512, []float64{greatest, greatest, greatest, greatest}, []int{128, 128, 128, 128}},
		{4, []float64{least, least}, []int{2, 2}},
		{4, []float64{least, greatest}, []int{0, 4}},
		{4, []float64{least, 3 * least}, []int{1, 3}},
		{10, []float64{1, 5, 2}, []int{1, 6, 3}},             // 1.25, 6.25, 2.5: one more to the last
		{10, []float64{1, 2, 3, 4, 5}, []int{1, 1, 2, 3, 3}}, // 0.67, 1.33, 2, 2.67, 3.33: one more to the first and the fourth
		{10, []float64{3, 3, 2}, []int{4, 4, 2}},             // 3.75, 3.75, 2.5
		{1, ones(64, 1), append([]int{1}, make([]int, 63)...)},
		{0, ones(64, 2), make([]int, 64)},
		{0, []float64{inf, nan}, []int{0, 0}},
		{512, ones(64, nan), slices.Repeat([]int{8}, 64)},
	} {
		if got := share.Shares(x.n, x.w); !slices.Equal(got, x.want) {
			t.Errorf("Shares(%d, %v) = %v, want %v", x.n, x.w, got, x.want)
		}
	}
}

// checkShares holds the shares against the chapter's words (P1.1), and against what they promise (P1.2).
func checkShares(t *testing.T, n int, w []float64) {
	t.Helper()
	got := share.Shares(n, w)
	want, quotas := wordsShares(n, w)
	if !slices.Equal(got, want) {
		t.Fatalf("Shares(%d, %v) = %v, want %v", n, w, got, want)
	}
	together := wordsTogether(w)
	if l := share.Together(w); !allAlike(l, together) {
		t.Fatalf("Together(%v) = %v, want %v", w, l, together)
	}
	sum := 0
	for i, x := range got {
		sum += x
		if x < 0 {
			t.Fatalf("Shares(%d, %v) = %v: one is below 0", n, w, got)
		}
		if together[i] == 0 && x > int(quotas[i])+1 {
			t.Fatalf("Shares(%d, %v) = %v: one that counts nothing has more than a cell", n, w, got)
		}
	}
	if sum != n {
		t.Fatalf("Shares(%d, %v) = %v: %d in all", n, w, got, sum)
	}
}

// P1.1, P1.2: all lists of one to three edges.
func TestSharesOfEdges(t *testing.T) {
	l := append(rising(), nan)
	for _, n := range []int{0, 1, 2, 3, 7, 80, 511, 512} {
		for _, a := range l {
			checkShares(t, n, []float64{a})
			for _, b := range l {
				checkShares(t, n, []float64{a, b})
				for _, c := range l {
					checkShares(t, n, []float64{a, b, c})
				}
			}
		}
	}
}

// P1.1, P1.2: lists of any length and of any weights.
func TestSharesOfMany(t *testing.T) {
	c := newChance(1)
	for range 20000 {
		checkShares(t, c.r.IntN(api.MaxCells+1), c.list(api.MaxParts, c.any))
		checkShares(t, c.r.IntN(api.MaxCells+1), c.list(api.MaxParts, c.plain))
		checkShares(t, c.r.IntN(20), c.list(5, c.plain))
	}
}

// P1.2: nobody who counts 0 takes what another one's weight asks for.
func TestNothingForNothing(t *testing.T) {
	for _, zero := range []float64{0, minus, -1, nan, below} {
		for n := range api.MaxCells + 1 {
			got := share.Shares(n, []float64{zero, 1, zero, 2, zero})
			if got[0] > 1 || got[2] > 1 || got[4] > 1 {
				t.Fatalf("Shares(%d, ..) with %v: %v", n, zero, got)
			}
		}
	}
}

// P1.2: weights times a power of two have the same shares.
func TestPowersOfTwo(t *testing.T) {
	c := newChance(2)
	for range 3000 {
		n, w := c.r.IntN(api.MaxCells+1), c.list(api.MaxParts, c.plain)
		want := share.Shares(n, w)
		for _, power := range []int{-1000, -333, -1, 1, 60, 1000} {
			times := make([]float64, len(w))
			for i, x := range w {
				times[i] = math.Ldexp(x, power)
			}
			if got := share.Shares(n, times); !slices.Equal(got, want) {
				t.Fatalf("Shares(%d, %v) = %v, but %v times 2^%d", n, w, want, got, power)
			}
		}
	}
}

// P1.2: subnormal numbers, which lose nothing above, have the shares of what they are times a power of two.
func TestPowersOfTwoFromBelow(t *testing.T) {
	for a := range 20 {
		for b := range 20 {
			w := []float64{float64(a) * least, float64(b) * least, 3 * least}
			if got, want := share.Shares(100, w), share.Shares(100, []float64{float64(a), float64(b), 3}); !slices.Equal(got, want) {
				t.Fatalf("Shares(100, %v) = %v, want %v", w, got, want)
			}
		}
	}
}

// R4: what is handed in isn't changed, what lies behind it neither, and what is answered may be written over.
func TestMemory(t *testing.T) {
	room := []float64{9, 3, 1, nan, -1, inf, 7}
	was := slices.Clone(room)
	w := room[1:5]
	together, shares := share.Together(w), share.Shares(10, w)
	if !slices.Equal(shares, []int{8, 2, 0, 0}) || !allAlike(together, []float64{1, 1.0 / 3, 0, 0}) {
		t.Fatalf("%v %v", together, shares)
	}
	together, shares = together[:cap(together)], shares[:cap(shares)]
	for i := range together {
		together[i] = 77
	}
	for i := range shares {
		shares[i] = 77
	}
	if !allAlike(room, was) {
		t.Errorf("what was handed in is changed: %v", room)
	}
	if got := share.Shares(10, w); !slices.Equal(got, []int{8, 2, 0, 0}) {
		t.Errorf("another answer than ahead: %v", got)
	}
	if got := share.Together(w); !allAlike(got, []float64{1, 1.0 / 3, 0, 0}) {
		t.Errorf("another answer than ahead: %v", got)
	}
	w[0] = 1
	if got := share.Shares(10, w); !slices.Equal(got, []int{5, 5, 0, 0}) {
		t.Errorf("what was handed in is kept: %v", got)
	}
}

// R6: the same call has the same answer, whatever was asked between.
func TestOneAnswer(t *testing.T) {
	c := newChance(3)
	for range 1000 {
		n, w := c.r.IntN(api.MaxCells+1), c.list(api.MaxParts, c.any)
		first, counts := share.Shares(n, w), share.Together(w)
		share.Shares(c.r.IntN(600), c.list(api.MaxParts+9, c.any))
		if !slices.Equal(share.Shares(n, w), first) || !allAlike(share.Together(w), counts) {
			t.Fatalf("Shares(%d, %v) has two answers", n, w)
		}
	}
}

// P1, R1: every call ends and none panics, at any argument.
func FuzzAll(f *testing.F) {
	f.Add(10, 3, math.Float64bits(1), math.Float64bits(2), math.Float64bits(nan))
	f.Add(-1, 65, math.Float64bits(minus), math.Float64bits(inf), math.Float64bits(below))
	f.Add(math.MaxInt, 0, uint64(1), math.Float64bits(greatest), uint64(0))
	f.Add(512, 64, math.Float64bits(greatest), uint64(1), math.Float64bits(greatest))
	f.Fuzz(func(t *testing.T, n, parts int, a, b, c uint64) {
		l := []float64{math.Float64frombits(a), math.Float64frombits(b), math.Float64frombits(c)}
		if share.Order(l[0], l[1]) != -share.Order(l[1], l[0]) || share.Same(l[0], l[1]) != (share.Order(l[0], l[1]) == 0) {
			t.Fatalf("Order(%v, %v)", l[0], l[1])
		}
		w := make([]float64, max(0, min(parts, 100)))
		for i := range w {
			w[i] = l[i%3]
		}
		if n >= 0 && n <= api.MaxCells && len(w) > 0 && len(w) <= api.MaxParts {
			checkShares(t, n, w)
		} else if got := share.Shares(n, w); len(got) != 0 {
			t.Fatalf("Shares(%d, %v) = %v", n, w, got)
		}
	})
}

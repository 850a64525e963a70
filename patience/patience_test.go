package patience_test

import (
	"math"
	"math/rand/v2"
	"testing"

	"betony/patience"
)

// The bounds of the chapter: of Min and Time, and of bytes.
const (
	longest = 255
	most    = 1048576
)

// words is a read by the words of the chapter.
type words struct {
	min, time, want, there int
	now, last              int // the tick that it is, and the one with which the last bytes came
	over                   bool
}

// begin is the read by the words; there is none outside the bounds.
func begin(min, time, want, there int) (words, bool) {
	for _, n := range []int{min, time} {
		if n < 0 || n > longest {
			return words{}, false
		}
	}
	for _, n := range []int{want, there} {
		if n < 0 || n > most {
			return words{}, false
		}
	}
	o := words{min: min, time: time, want: want, there: there}
	o.over = o.ends()
	return o, true
}

// bytes is P.
func (o words) bytes() int {
	if o.there > o.want {
		return o.want
	}
	return o.there
}

// ends is the table of the chapter.
func (o words) ends() bool {
	p := o.bytes()
	if o.min == 0 {
		return o.time == 0 || p > 0 || o.want == 0 || o.now >= o.time
	}
	if p >= o.min || p == o.want {
		return true
	}
	return o.time > 0 && p > 0 && o.now-o.last >= o.time
}

// step lets n bytes come; with a 0 a tick goes by.
func (o *words) step(n int) {
	if o.over {
		return
	}
	switch {
	case n == 0:
		o.now++
	case n > 0 && n <= most:
		o.there += n
		if o.there > most {
			o.there = most
		}
		o.last = o.now
	}
	o.over = o.ends()
}

// step lets n bytes come; with a 0 a tick goes by.
func step(w *patience.Wait, n int) {
	if n == 0 {
		w.Tick()
		return
	}
	w.Come(n)
}

// both is a read, and the same one by the words.
type both struct {
	w *patience.Wait
	o words
}

// start begins both; there may be none.
func start(t *testing.T, min, time, want, there int) (both, bool) {
	t.Helper()
	w := patience.New(min, time, want, there)
	o, ok := begin(min, time, want, there)
	if (w != nil) != ok {
		t.Fatalf("New(%d, %d, %d, %d): there is one: %v", min, time, want, there, w != nil)
	}
	b := both{w, o}
	if ok {
		b.check(t)
	}
	return b, ok
}

// check holds the read against the words.
func (b both) check(t *testing.T) {
	t.Helper()
	if b.w.Done() != b.o.over || b.w.Count() != b.o.bytes() {
		t.Fatalf("Done, Count = %v, %d, want %+v", b.w.Done(), b.w.Count(), b.o)
	}
}

// step is a step of both.
func (b *both) step(t *testing.T, n int) {
	t.Helper()
	step(b.w, n)
	b.o.step(n)
	b.check(t)
}

// bounds are numbers at all bounds, on either side.
func bounds() []int {
	return []int{math.MinInt, math.MinInt + 1, -1 << 32, -1 << 31, -most, -256, -255, -2, -1, 0, 1, 2, 3, 127, 128, 254, 255, 256, 257, 1023, 1024, most - 256, most - 255, most - 2, most - 1, most, most + 1, most + 2, 2 * most, 1<<31 - 1, 1 << 31, 1<<32 + 1, math.MaxInt - most, math.MaxInt - 1, math.MaxInt}
}

// The chapter's example.
func TestExample(t *testing.T) {
	w := patience.New(3, 2, 9, 0)
	w.Come(1)
	w.Tick()
	if w.Done() {
		t.Error("over with the first tick")
	}
	w.Tick()
	if !w.Done() || w.Count() != 1 {
		t.Errorf("Done, Count = %v, %d", w.Done(), w.Count())
	}
}

// row is what is to be told of a read behind steps: bytes that come, and of a 0 a tick.
type row struct {
	min, time, want, there int
	steps                  []int
	done                   bool
	count                  int
}

// check holds a read against the row.
func (r row) check(t *testing.T) {
	t.Helper()
	w := patience.New(r.min, r.time, r.want, r.there)
	if w == nil {
		t.Errorf("there is none of %+v", r)
		return
	}
	for _, n := range r.steps {
		step(w, n)
	}
	if w.Done() != r.done || w.Count() != r.count {
		t.Errorf("Done, Count = %v, %d, want %+v", w.Done(), w.Count(), r)
	}
}

// P20.1: Min and Time above 0.
func TestBoth(t *testing.T) {
	for _, r := range []row{
		{3, 2, 9, 0, nil, false, 0},
		{3, 2, 9, 2, nil, false, 2},
		{3, 2, 9, 3, nil, true, 3},
		{3, 2, 9, 4, nil, true, 4},
		{3, 2, 9, 20, nil, true, 9},
		// No byte is there: no tick ends it.
		{3, 2, 9, 0, []int{0, 0, 0, 0, 0}, false, 0},
		{3, 2, 9, 0, []int{0, 0, 0, 1}, false, 1},
		{3, 2, 9, 0, []int{0, 0, 0, 1, 0}, false, 1},
		{3, 2, 9, 0, []int{0, 0, 0, 1, 0, 0}, true, 1},
		// Those that are there at its beginning came with it.
		{3, 2, 9, 1, []int{0}, false, 1},
		{3, 2, 9, 1, []int{0, 0}, true, 1},
		// Each that comes lets the ticks begin anew.
		{5, 2, 9, 0, []int{1, 0, 1, 0, 1, 0}, false, 3},
		{5, 2, 9, 0, []int{1, 0, 1, 0, 1, 0, 0}, true, 3},
		{5, 2, 9, 1, []int{0, 1, 1, 0, 1, 0}, false, 4},
		{5, 2, 9, 1, []int{0, 1, 1, 0, 1, 0, 7}, true, 9},
		{5, 3, 9, 0, []int{2, 0, 0, 3}, true, 5},
		{5, 1, 9, 0, []int{2, 0}, true, 2},
		{5, 1, 9, 0, []int{2}, false, 2},
		// As many as it asks for are enough, if that is less than Min.
		{5, 2, 3, 2, nil, false, 2},
		{5, 2, 3, 2, []int{1}, true, 3},
		{5, 2, 3, 2, []int{9}, true, 3},
		{5, 2, 3, 9, nil, true, 3},
		{1, 1, 0, 0, nil, true, 0},
		{1, 1, 0, 5, nil, true, 0},
		{1, 2, 9, 0, []int{0, 0, 0, 1}, true, 1},
	} {
		r.check(t)
	}
}

// P20.1: Min above 0, Time 0: no tick ends it.
func TestMin(t *testing.T) {
	for _, r := range []row{
		{3, 0, 9, 0, nil, false, 0},
		{3, 0, 9, 2, nil, false, 2},
		{3, 0, 9, 2, []int{0, 0, 0, 0}, false, 2},
		{3, 0, 9, 0, []int{0, 1, 0, 1, 0}, false, 2},
		{3, 0, 9, 0, []int{0, 1, 0, 1, 0, 1}, true, 3},
		{3, 0, 9, 2, []int{7}, true, 9},
		{3, 0, 9, 2, []int{8}, true, 9},
		{3, 0, 9, 3, nil, true, 3},
		{3, 0, 9, 9, nil, true, 9},
		{3, 0, 9, 10, nil, true, 9},
		{3, 0, 2, 1, nil, false, 1},
		{3, 0, 2, 1, []int{0, 1}, true, 2},
		{3, 0, 2, 2, nil, true, 2},
		{3, 0, 0, 0, nil, true, 0},
		{3, 0, 0, 7, nil, true, 0},
		{255, 0, 300, 254, nil, false, 254},
		{255, 0, 300, 254, []int{1}, true, 255},
	} {
		r.check(t)
	}
}

// P20.1: Min 0, Time above 0: the ticks are those since its beginning, and a byte is enough.
func TestTime(t *testing.T) {
	for _, r := range []row{
		{0, 2, 9, 0, nil, false, 0},
		{0, 2, 9, 0, []int{0}, false, 0},
		{0, 2, 9, 0, []int{0, 0}, true, 0},
		{0, 2, 9, 0, []int{0, 1}, true, 1},
		{0, 2, 9, 0, []int{4}, true, 4},
		{0, 2, 9, 0, []int{12}, true, 9},
		{0, 2, 9, 1, nil, true, 1},
		{0, 2, 9, 30, nil, true, 9},
		{0, 2, 0, 0, nil, true, 0},
		{0, 2, 0, 5, nil, true, 0},
		{0, 1, 9, 0, []int{0}, true, 0},
		{0, 1, 1, 0, []int{3}, true, 1},
	} {
		r.check(t)
	}
}

// P20.1: Min 0, Time 0: it is over at once.
func TestAtOnce(t *testing.T) {
	for _, r := range []row{
		{0, 0, 9, 0, nil, true, 0},
		{0, 0, 9, 5, nil, true, 5},
		{0, 0, 9, 10, nil, true, 9},
		{0, 0, 0, 0, nil, true, 0},
		{0, 0, 0, 5, nil, true, 0},
		{0, 0, 9, 0, []int{5, 0, 5}, true, 0},
	} {
		r.check(t)
	}
}

// P20.1: one that is over stays so; nothing comes or goes by then.
func TestStays(t *testing.T) {
	for _, r := range []row{
		{0, 0, 9, 3, []int{1}, true, 3},
		{3, 2, 9, 3, []int{1, 0, 2}, true, 3},
		{3, 2, 9, 1, []int{0, 0, 1}, true, 1},
		{3, 2, 9, 1, []int{0, 0, 5, 5}, true, 1},
		{3, 0, 9, 1, []int{2, 1, 1}, true, 3},
		{3, 0, 9, 1, []int{3, 0, 1}, true, 4},
		{0, 2, 9, 0, []int{0, 0, 1}, true, 0},
		{0, 2, 9, 0, []int{2, 1, 0}, true, 2},
		{0, 2, 9, 2, []int{1, 1}, true, 2},
		{9, 2, 3, 3, []int{1, 0}, true, 3},
	} {
		r.check(t)
	}
}

// P20.1: what comes is from 1 to 2^20; other numbers count for nothing, and let no ticks begin anew.
func TestCome(t *testing.T) {
	for _, n := range bounds() {
		for _, x := range []struct{ min, time int }{{3, 2}, {255, 2}, {3, 0}, {255, 0}, {0, 2}} {
			w := patience.New(x.min, x.time, most, 0)
			w.Come(n)
			is := 0
			if n >= 1 && n <= most {
				is = n
			}
			done := is == most || x.min == 0 && is > 0 || x.min > 0 && is >= x.min
			if w.Done() != done || w.Count() != is {
				t.Errorf("Min %d, Time %d, of %d: Done, Count = %v, %d", x.min, x.time, n, w.Done(), w.Count())
			}
		}
		if n >= 1 && n <= most {
			continue
		}
		w := patience.New(3, 2, 9, 1)
		w.Tick()
		w.Come(n)
		w.Tick()
		if !w.Done() || w.Count() != 1 {
			t.Errorf("the ticks began anew with %d: Done, Count = %v, %d", n, w.Done(), w.Count())
		}
	}
}

// P20.1: there are at most 2^20, and of those at most as many as are asked for.
func TestMost(t *testing.T) {
	for _, r := range []row{
		{255, 2, most, 254, []int{most}, true, most},
		{255, 2, most, 254, []int{most - 254}, true, most},
		{255, 2, most, 254, []int{most - 255}, true, most - 1},
		{255, 2, most, most, nil, true, most},
		{255, 2, most, most - 1, nil, true, most - 1},
		{255, 2, most - 1, most, nil, true, most - 1},
		{255, 0, most, 1, []int{most}, true, most},
		{255, 0, 100, 99, []int{most}, true, 100},
		{0, 255, most, 0, []int{most}, true, most},
		{0, 255, 7, 0, []int{most}, true, 7},
		{0, 0, most, most, nil, true, most},
	} {
		r.check(t)
	}
}

// P20.1: there is one of Min and Time from 0 to 255, of bytes from 0 to 2^20, and none of others.
func TestNew(t *testing.T) {
	for _, n := range bounds() {
		short, long := n >= 0 && n <= 255, n >= 0 && n <= 1048576
		for i, x := range []struct {
			a    [4]int
			want bool
		}{
			{[4]int{n, 0, 1, 1}, short},
			{[4]int{0, n, 1, 1}, short},
			{[4]int{0, 0, n, 1}, long},
			{[4]int{0, 0, 1, n}, long},
			{[4]int{n, n, 1, 1}, short},
			{[4]int{255, 255, n, n}, long},
			{[4]int{n, n, n, n}, short},
			{[4]int{256, n, 1, 1}, false},
			{[4]int{n, -1, 1, 1}, false},
			{[4]int{1, 1, n, -1}, false},
			{[4]int{1, 1, most + 1, n}, false},
		} {
			if w := patience.New(x.a[0], x.a[1], x.a[2], x.a[3]); (w != nil) != x.want {
				t.Errorf("%d: New%v: there is one: %v", i, x.a, w != nil)
			}
		}
	}
}

// P20.1: each Time, and each Min; with a byte there and behind exactly Time ticks it is over.
func TestEachTime(t *testing.T) {
	for min := range longest + 1 {
		for time := min % 7; time <= longest; time += 7 {
			b, _ := start(t, min, time, 300, min/2)
			for range time + 1 {
				b.step(t, 0)
			}
			b, _ = start(t, min, time, 300, 0)
			b.step(t, 0)
			b.step(t, 1)
			for range time - 1 {
				b.step(t, 0)
			}
			b.step(t, 1)
			for range time + 1 {
				b.step(t, 0)
			}
		}
	}
}

// steps goes through all rows of so many steps, from the read that is made anew for each.
func steps(t *testing.T, a [4]int, kinds []int, n int) {
	rows := 1
	for range n {
		rows *= len(kinds)
	}
	for i := range rows {
		b, _ := start(t, a[0], a[1], a[2], a[3])
		for range n {
			b.step(t, kinds[i%len(kinds)])
			i /= len(kinds)
		}
	}
}

// P20.1: all rows of five steps, of all reads with small numbers.
func TestRows(t *testing.T) {
	kinds := []int{0, 1, 2, -1}
	for min := range 5 {
		for time := range 4 {
			for want := range 6 {
				for there := range 4 {
					steps(t, [4]int{min, time, want, there}, kinds, 5)
				}
			}
		}
	}
}

// P20.2: one that asks for nothing is over at once, and has no bytes.
func TestNothing(t *testing.T) {
	for min := range longest + 1 {
		for _, time := range []int{0, 1, 2, 254, 255} {
			for _, there := range []int{0, 1, 300, most} {
				w := patience.New(min, time, 0, there)
				if !w.Done() || w.Count() != 0 {
					t.Fatalf("New(%d, %d, 0, %d): Done, Count = %v, %d", min, time, there, w.Done(), w.Count())
				}
				w.Come(1)
				w.Tick()
				if !w.Done() || w.Count() != 0 {
					t.Fatalf("of New(%d, %d, 0, %d) there is something later", min, time, there)
				}
			}
		}
	}
}

// P20.2: with Time above 0, and a byte there or Min 0, it is over behind Time ticks at most.
func TestTicks(t *testing.T) {
	c := rand.New(rand.NewPCG(20, 1))
	for range 20000 {
		min, time := c.IntN(longest+1), 1+c.IntN(longest)
		w := patience.New(min, time, 1+c.IntN(300), c.IntN(2))
		for range c.IntN(20) {
			step(w, c.IntN(4)*c.IntN(3))
		}
		if min > 0 && w.Count() == 0 {
			for range 300 {
				w.Tick()
			}
			if w.Done() {
				t.Fatal("over without a byte")
			}
			w.Come(1)
		}
		for range time {
			w.Tick()
		}
		if !w.Done() {
			t.Fatalf("Min %d, Time %d, %d bytes: not over", min, time, w.Count())
		}
	}
}

// anyOf is a number of l, or one below top.
func anyOf(c *rand.Rand, l []int, top int) int {
	if c.IntN(8) == 0 {
		return l[c.IntN(len(l))]
	}
	return c.IntN(top)
}

// P20.1, P20.2, P1: any steps, of any reads.
func TestAny(t *testing.T) {
	c := rand.New(rand.NewPCG(20, 2))
	for range 60000 {
		b, ok := start(t, anyOf(c, bounds(), 12), anyOf(c, bounds(), 5), anyOf(c, bounds(), 20), anyOf(c, bounds(), 8))
		if !ok {
			continue
		}
		for range 30 {
			b.step(t, anyOf(c, bounds(), 4)*c.IntN(2))
		}
	}
}

// P1: many ticks without a byte end nothing, and a byte lets them begin anew.
func TestLong(t *testing.T) {
	b, _ := start(t, 2, 255, 9, 0)
	for range 1 << 20 {
		b.w.Tick()
	}
	b.check(t)
	b.step(t, 1)
	for range 255 {
		b.step(t, 0)
	}
	if !b.w.Done() {
		t.Error("not over")
	}
}

// R6: that it is asked changes nothing.
func TestAsked(t *testing.T) {
	c := rand.New(rand.NewPCG(20, 3))
	for range 2000 {
		a := [4]int{c.IntN(6), c.IntN(4), c.IntN(9), c.IntN(3)}
		w, asked := patience.New(a[0], a[1], a[2], a[3]), patience.New(a[0], a[1], a[2], a[3])
		for range 12 {
			n := c.IntN(3) * c.IntN(2)
			step(w, n)
			step(asked, n)
			for range c.IntN(4) {
				asked.Count()
				asked.Done()
			}
		}
		if w.Done() != asked.Done() || w.Count() != asked.Count() {
			t.Fatalf("%v: %v, %d, and of the one that was asked %v, %d", a, w.Done(), w.Count(), asked.Done(), asked.Count())
		}
	}
}

// R6: of several reads each is by itself.
func TestOneAnswer(t *testing.T) {
	c := rand.New(rand.NewPCG(20, 4))
	for range 500 {
		var l []both
		for range 5 {
			b, _ := start(t, c.IntN(6), c.IntN(4), c.IntN(9), c.IntN(3))
			l = append(l, b)
		}
		for range 60 {
			i := c.IntN(len(l))
			l[i].step(t, c.IntN(3)*c.IntN(2))
			for _, b := range l {
				b.check(t)
			}
		}
	}
}

// P1: the read that New doesn't make takes all calls.
func TestNil(t *testing.T) {
	w := patience.New(256, 0, 1, 0)
	if w != nil {
		t.Fatal("New isn't nil")
	}
	for range 3 {
		w.Come(1)
		w.Tick()
		if !w.Done() || w.Count() != 0 {
			t.Errorf("Done, Count = %v, %d", w.Done(), w.Count())
		}
	}
}

// P1, R1: every call ends and none panics, at any argument, and all is as the words tell.
func FuzzAll(f *testing.F) {
	f.Add(3, 2, 9, 0, []byte{1, 0, 0}, 1)
	f.Add(3, 0, 9, 1, []byte{0, 1, 0, 9, 0}, math.MaxInt)
	f.Add(0, 2, 9, 0, []byte{0, 255, 0}, math.MinInt)
	f.Add(0, 0, 0, 7, []byte{4}, most)
	f.Add(256, -1, most+1, math.MinInt, []byte{}, 0)
	f.Fuzz(func(t *testing.T, min, time, want, there int, text []byte, n int) {
		b, ok := start(t, min, time, want, there)
		if !ok {
			return
		}
		for _, c := range text {
			if c == 255 {
				b.step(t, n)
				continue
			}
			b.step(t, int(c)-1)
		}
	})
}

package fifo_test

import (
	"math"
	"math/rand/v2"
	"slices"
	"testing"

	"betony/fifo"
)

const most = 65536 // the greatest room

// bounds are numbers at all bounds, on either side.
func bounds() []int {
	return []int{math.MinInt, math.MinInt + 1, -1 << 32, -most - 1, -most, -2, -1, 0, 1, 2, 3, 255, 256, most - 1, most, most + 1, 1<<32 - 1, 1 << 32, 1<<32 + 1, math.MaxInt - 1, math.MaxInt}
}

// number is one that stands in a queue.
type number struct {
	v       int
	inPlace bool // the kept one
}

// words is a queue by the words: its numbers, each with whether it is in the kept place.
type words struct {
	room, kept, lost int
	l                []number
}

// counts tells how many numbers there are beside the kept place, and whether that is taken.
func (m *words) counts() (n int, placed bool) {
	for _, x := range m.l {
		if x.inPlace {
			placed = true
		} else {
			n++
		}
	}
	return n, placed
}

// put is Put by the words.
func (m *words) put(v int) bool {
	n, placed := m.counts()
	there := n >= m.room
	if v == m.kept && there && placed || v != m.kept && there {
		m.lost++
		return false
	}
	m.l = append(m.l, number{v, v == m.kept && there})
	return true
}

// take is Take by the words.
func (m *words) take() (int, bool) {
	if len(m.l) == 0 {
		return 0, false
	}
	v := m.l[0].v
	m.l = slices.Clone(m.l[1:])
	return v, true
}

// all is All by the words.
func (m *words) all() []int {
	var l []int
	for _, x := range m.l {
		l = append(l, x.v)
	}
	return l
}

// pair is a queue, and the same by the words.
func pair(room, kept int) (*fifo.Queue, *words) {
	return fifo.New(room, kept), &words{room: room, kept: kept}
}

// check holds q against the words.
func check(t *testing.T, q *fifo.Queue, m *words) {
	t.Helper()
	if q == nil {
		t.Fatalf("no queue, want one of the room %d", m.room)
	}
	if got, want := q.All(), m.all(); !slices.Equal(got, want) {
		t.Fatalf("All = %v, want %v (room %d, kept %d)", got, want, m.room, m.kept)
	}
	if q.Len() != len(m.l) || q.Lost() != m.lost {
		t.Fatalf("Len, Lost = %d, %d, want %d, %d (%v, room %d, kept %d)", q.Len(), q.Lost(), len(m.l), m.lost, q.All(), m.room, m.kept)
	}
}

// checkPut puts v into both.
func checkPut(t *testing.T, q *fifo.Queue, m *words, v int) {
	t.Helper()
	was := q.All()
	if got, want := q.Put(v), m.put(v); got != want {
		t.Fatalf("Put(%d) behind %v = %v, want %v (room %d, kept %d)", v, was, got, want, m.room, m.kept)
	}
}

// checkTake takes from both.
func checkTake(t *testing.T, q *fifo.Queue, m *words) {
	t.Helper()
	was := q.All()
	got, ok := q.Take()
	if want, there := m.take(); got != want || ok != there {
		t.Fatalf("Take of %v = %d, %v, want %d, %v", was, got, ok, want, there)
	}
}

// clearBoth clears both.
func clearBoth(q *fifo.Queue, m *words) {
	q.Clear()
	m.l = nil
}

// P7.1: New, its room at all bounds, its kept number any.
func TestNew(t *testing.T) {
	for _, room := range append(bounds(), 64, 4096, 1<<16+1<<32) {
		for _, kept := range bounds() {
			q := fifo.New(room, kept)
			if want := room >= 1 && room <= most; (q != nil) != want {
				t.Fatalf("New(%d, %d) = %v", room, kept, q)
			}
			if q != nil {
				check(t, q, &words{room: room, kept: kept})
			}
		}
	}
}

// The chapter's example: room 1, kept 9.
func TestExample(t *testing.T) {
	q := fifo.New(1, 9)
	for _, x := range []struct {
		v    int
		want bool
	}{{1, true}, {2, false}, {9, true}, {9, false}} {
		if got := q.Put(x.v); got != x.want {
			t.Errorf("Put(%d) = %v", x.v, got)
		}
	}
	if !slices.Equal(q.All(), []int{1, 9}) || q.Len() != 2 || q.Lost() != 2 {
		t.Errorf("%v, %d, %d", q.All(), q.Len(), q.Lost())
	}
}

// step is a call: Put of v, or Take.
type step struct {
	take bool
	v    int
	ok   bool
}

// put and lost are steps that put v, take is one that takes v, none one that finds nothing.
func put(v int) step  { return step{v: v, ok: true} }
func lost(v int) step { return step{v: v} }
func take(v int) step { return step{take: true, v: v, ok: true} }

var none = step{take: true}

// P7.1: Put and Take, ordinary numbers, and kept ones.
func TestSteps(t *testing.T) {
	for i, x := range []struct {
		room  int
		steps []step
		left  []int
		lost  int
	}{
		{1, nil, nil, 0},
		{1, []step{none, none}, nil, 0},
		{1, []step{put(1), lost(2), take(1), none, put(3), take(3), none}, nil, 1},
		{3, []step{put(1), put(2), put(3), lost(4), take(1), put(5), lost(6), take(2)}, []int{3, 5}, 2},
		{2, []step{put(1), put(1), lost(1)}, []int{1, 1}, 1},
		// A kept one that comes when there is room takes room, as any other one.
		{2, []step{put(9), put(1), lost(2)}, []int{9, 1}, 1},
		{1, []step{put(9), lost(1), put(9), lost(9), lost(1)}, []int{9, 9}, 3},
		{2, []step{put(9), put(9), put(9), lost(9)}, []int{9, 9, 9}, 1},
		// The one in the kept place takes none, even as the first one.
		{1, []step{put(1), put(9), take(1), put(2), lost(3), lost(9)}, []int{9, 2}, 2},
		{2, []step{put(1), put(2), put(9), take(1), take(2), put(3), put(4), lost(5)}, []int{9, 3, 4}, 1},
		// A kept one that comes while there is one in the kept place, and room, takes room.
		{2, []step{put(1), put(2), put(9), take(1), put(9), lost(9), lost(3)}, []int{2, 9, 9}, 2},
		// It is in the kept place until it is taken itself, not another kept one ahead of it.
		{1, []step{put(9), put(9), take(9), put(1), lost(9), take(9), lost(2), put(9)}, []int{1, 9}, 2},
		{2, []step{put(9), put(1), put(9), take(9), put(2), lost(9), take(1), take(9), put(3), put(9), lost(4)}, []int{2, 3, 9}, 2},
		// What is taken behind it leaves the place free, too, and it is taken in its order.
		{1, []step{put(1), put(9), take(1), take(9), none, put(9), put(9), lost(9)}, []int{9, 9}, 1},
		{1, []step{put(1), put(9), take(1), take(9), put(2), put(9), take(2), put(3), take(9), take(3), none}, nil, 0},
		// Only the kept number is kept.
		{1, []step{put(8), lost(8), lost(10), lost(-9), lost(9 + 1<<32), lost(0), put(9)}, []int{8, 9}, 5},
	} {
		q := fifo.New(x.room, 9)
		for k, s := range x.steps {
			if !s.take {
				if got := q.Put(s.v); got != s.ok {
					t.Fatalf("%d, step %d: Put(%d) = %v behind %v", i, k, s.v, got, q.All())
				}
				continue
			}
			if v, ok := q.Take(); v != s.v || ok != s.ok {
				t.Fatalf("%d, step %d: Take = %d, %v, want %d, %v", i, k, v, ok, s.v, s.ok)
			}
		}
		if !slices.Equal(q.All(), x.left) || q.Len() != len(x.left) || q.Lost() != x.lost {
			t.Errorf("%d: %v, %d, %d, want %v, %d", i, q.All(), q.Len(), q.Lost(), x.left, x.lost)
		}
	}
}

// P7.1, P7.2: all rows of calls, of small rooms.
func TestEach(t *testing.T) {
	const calls, kept = 9, -1
	for room := 1; room <= 3; room++ {
		for n := range 1 << (2 * calls) {
			q, m := pair(room, kept)
			for k := range calls {
				switch n >> (2 * k) & 3 {
				case 0:
					checkPut(t, q, m, k)
				case 1:
					checkPut(t, q, m, kept)
				case 2:
					checkTake(t, q, m)
				default:
					clearBoth(q, m)
				}
			}
			check(t, q, m)
		}
	}
}

// P7.1: as many numbers as there is room for, one kept one more, and no other.
func TestRooms(t *testing.T) {
	for _, room := range []int{1, 2, 3, 7, 8, 9, 15, 16, 17, 64, 255, 4096, most - 1, most} {
		q := fifo.New(room, -1)
		var want []int
		for v := range room {
			if !q.Put(v) {
				t.Fatalf("room %d: %d is lost", room, v)
			}
			want = append(want, v)
		}
		if q.Put(room) || !q.Put(-1) || q.Put(-1) || q.Put(room) || q.Len() != room+1 || q.Lost() != 3 {
			t.Fatalf("room %d: %d numbers, %d lost", room, q.Len(), q.Lost())
		}
		if want = append(want, -1); !slices.Equal(q.All(), want) {
			t.Fatalf("room %d: other numbers", room)
		}
		for i, v := range want {
			if got, ok := q.Take(); got != v || !ok || q.Len() != room-i {
				t.Fatalf("room %d: Take = %d, %v, want %d", room, got, ok, v)
			}
		}
		if v, ok := q.Take(); v != 0 || ok || q.Len() != 0 || len(q.All()) != 0 || q.Lost() != 3 {
			t.Fatalf("room %d: Take = %d, %v of none", room, v, ok)
		}
	}
}

// P7.1: any number may be kept, and any may come.
func TestAnyNumbers(t *testing.T) {
	for _, kept := range bounds() {
		q, m := pair(1, kept)
		for _, v := range bounds() {
			checkPut(t, q, m, v)
			check(t, q, m)
		}
		checkTake(t, q, m)
		checkTake(t, q, m)
		check(t, q, m)
		for _, v := range bounds() {
			checkPut(t, q, m, v)
			checkPut(t, q, m, kept)
			check(t, q, m)
			checkTake(t, q, m)
			checkTake(t, q, m)
			checkTake(t, q, m)
		}
		check(t, q, m)
	}
}

// P7.1: Lost counts what was lost by Put, and nothing else.
func TestLost(t *testing.T) {
	q := fifo.New(2, 9)
	q.Take()
	if q.Lost() != 0 {
		t.Errorf("%d lost by Take", q.Lost())
	}
	for v := range 102 {
		q.Put(v)
	}
	if q.Lost() != 99 { // 0, 1 and the kept one aren't lost
		t.Errorf("%d lost", q.Lost())
	}
	q.Take()
	q.Clear()
	q.Clear()
	q.Take()
	if q.Lost() != 99 {
		t.Errorf("%d lost behind Clear", q.Lost())
	}
	q.Put(1)
	q.Put(2)
	if q.Put(3); q.Lost() != 100 {
		t.Errorf("%d lost at last", q.Lost())
	}
}

// P7.1: Clear, of any numbers: there are none, there is room, the kept place is free, and what is kept is kept.
func TestClear(t *testing.T) {
	for room := 1; room <= 20; room++ {
		for n := range room + 2 {
			for taken := range n + 1 {
				q, m := pair(room, 9)
				for range taken {
					checkPut(t, q, m, 1)
					checkTake(t, q, m)
				}
				for range n {
					checkPut(t, q, m, 9)
				}
				clearBoth(q, m)
				check(t, q, m)
				checkTake(t, q, m)
				for v := range room + 1 {
					checkPut(t, q, m, v+10)
				}
				checkPut(t, q, m, 9)
				checkPut(t, q, m, 9)
				check(t, q, m)
				if q.Len() != room+1 {
					t.Fatalf("%d numbers, room %d", q.Len(), room)
				}
			}
		}
	}
}

// P7.1, P7.2: any calls, one behind the other.
func TestAny(t *testing.T) {
	c := rand.New(rand.NewPCG(7, 1))
	for range 400 {
		q, m := pair(1+c.IntN(1+c.IntN(40)), 0)
		puts := 1 + c.IntN(9)
		for n := range 400 {
			switch k := c.IntN(100); {
			case k == 0:
				clearBoth(q, m)
			case k == 1:
				puts = 1 + c.IntN(9) // the queue tends to be full, or to be empty
			case k%10 > puts:
				checkTake(t, q, m)
			case k < 30:
				checkPut(t, q, m, 0)
			default:
				checkPut(t, q, m, n+1)
			}
			check(t, q, m)
		}
	}
}

// P7.2: what came first, and wasn't lost, is taken first.
func TestOrder(t *testing.T) {
	c := rand.New(rand.NewPCG(7, 2))
	for range 200 {
		q := fifo.New(1+c.IntN(30), -1)
		var came, taken []int
		for n := range 500 {
			v := n
			if c.IntN(4) == 0 {
				v = -1
			}
			if q.Put(v) {
				came = append(came, v)
			}
			for c.IntN(2) == 0 && q.Len() > 0 {
				v, _ := q.Take()
				taken = append(taken, v)
			}
			if left := q.All(); !slices.Equal(slices.Concat(taken, left), came) {
				t.Fatalf("taken %v, left %v, came %v", taken, left, came)
			}
		}
	}
}

// P7.2: where a kept number is lost, one that came is still there to be taken; with the kept place free none is lost.
func TestKept(t *testing.T) {
	c := rand.New(rand.NewPCG(7, 3))
	for range 500 {
		q, m := pair(1+c.IntN(6), 9)
		for range 200 {
			_, placed := m.counts()
			switch c.IntN(5) {
			case 0:
				was := q.All()
				ok := q.Put(9)
				m.put(9)
				if !ok && !slices.Contains(was, 9) || !ok && !placed {
					t.Fatalf("a kept one is lost behind %v", was)
				}
			case 1:
				checkTake(t, q, m)
			default:
				checkPut(t, q, m, c.IntN(9))
			}
		}
	}
}

// P7.2: however many come between, one kept number comes through, each time.
func TestFlood(t *testing.T) {
	q := fifo.New(4, 9)
	for round := range 50 {
		for v := range 100 {
			q.Put(v % 9)
		}
		if !q.Put(9) {
			t.Fatalf("round %d: the kept one is lost", round)
		}
		for range 100 {
			q.Put(9)
			q.Put(8)
		}
		found := false
		for v, ok := q.Take(); ok; v, ok = q.Take() {
			found = found || v == 9
		}
		if !found {
			t.Fatalf("round %d: no kept one is taken", round)
		}
	}
}

// R4: what All answers may be written over, and what comes later doesn't change it.
func TestMemory(t *testing.T) {
	q, m := pair(5, 9)
	for v := range 7 {
		checkPut(t, q, m, v)
		checkTake(t, q, m)
	}
	for v := range 6 {
		checkPut(t, q, m, v)
	}
	first, second := q.All(), q.All()
	clear(first)
	_ = append(first[:0], 77)
	_ = append(second, 78, 79)
	check(t, q, m)
	was := slices.Clone(second)
	for v := range 9 {
		checkTake(t, q, m)
		checkPut(t, q, m, 100+v)
	}
	q.Clear()
	if !slices.Equal(second, was) {
		t.Errorf("All is changed: %v", second)
	}
}

// R6: the same calls have the same answers, whatever was asked between, and whatever other queues do.
func TestOneAnswer(t *testing.T) {
	c := rand.New(rand.NewPCG(7, 4))
	for range 200 {
		room := 1 + c.IntN(9)
		q, o, other := fifo.New(room, 9), fifo.New(room, 9), fifo.New(room, 8)
		for range 100 {
			if v := c.IntN(20); v < 12 {
				if q.Put(v) != o.Put(v) {
					t.Fatal("Put has two answers")
				}
			} else if v, ok := q.Take(); true {
				if w, there := o.Take(); v != w || ok != there {
					t.Fatal("Take has two answers")
				}
			}
			other.Put(c.IntN(12))
			o.All()
			if !slices.Equal(q.All(), o.All()) || q.Len() != o.Len() || q.Lost() != o.Lost() {
				t.Fatalf("%v and %v", q.All(), o.All())
			}
		}
	}
}

// P1: no call panics, of what New answers that is no queue, too.
func TestNoQueue(t *testing.T) {
	q := fifo.New(0, 0)
	q.Clear()
	if v, ok := q.Take(); v != 0 || ok || q.Put(0) || q.Put(1) || q.Len() != 0 || q.Lost() != 0 || len(q.All()) != 0 {
		t.Error("there are numbers")
	}
}

// P1, R1: every call ends and none panics, at any argument.
func FuzzAll(f *testing.F) {
	f.Add(1, 9, []byte{1, 2, 9, 9, 200, 9})
	f.Add(0, 0, []byte{0, 200, 255})
	f.Add(most+1, math.MinInt, []byte{3})
	f.Add(math.MaxInt, 255, []byte{130, 255})
	f.Fuzz(func(t *testing.T, room, kept int, calls []byte) {
		if q := fifo.New(room, kept); (q != nil) != (room >= 1 && room <= most) {
			t.Fatalf("New(%d, %d) = %v", room, kept, q)
		}
		q, m := pair(int(uint(room)%20)+1, kept)
		for i, b := range calls {
			switch {
			case b < 40:
				checkPut(t, q, m, kept)
			case b < 128:
				checkPut(t, q, m, kept+int(b)*i)
			case b < 250:
				checkTake(t, q, m)
			default:
				clearBoth(q, m)
			}
		}
		check(t, q, m)
	})
}

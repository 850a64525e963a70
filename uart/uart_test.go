package uart_test

import (
	"bytes"
	"math"
	"math/rand/v2"
	"slices"
	"testing"

	"betony/api"
	"betony/uart"
)

const most = 65536 // the greatest room

// The flags of a line.
const (
	overrun = 1
	framing = 2
	broken  = 4
)

// bounds are numbers at all bounds, on either side.
func bounds() []int {
	return []int{math.MinInt, math.MinInt + 1, -1 << 32, -most - 1, -most, -2, -1, 0, 1, 2, 3, 255, 256, 257, most - 1, most, most + 1, 1<<32 - 1, 1 << 32, 1<<32 + 1, math.MaxInt - 1, math.MaxInt}
}

// words is a line by the chapter's words.
type words struct {
	room int
	in   []api.Item
	out  []byte
	lost bool // something was lost since an item was taken in
}

// receive is Receive by the words.
func (m *words) receive(b byte, flags int) bool {
	if len(m.in) == m.room {
		m.lost = true
		return false
	}
	i := api.Item{B: b}
	for _, f := range []int{framing, broken} {
		if flags&f != 0 {
			i.Flags += f
		}
	}
	if m.lost {
		i.Flags += overrun
	}
	m.in, m.lost = append(m.in, i), false
	return true
}

// read is Read by the words.
func (m *words) read() (api.Item, bool) {
	if len(m.in) == 0 {
		return api.Item{}, false
	}
	i := m.in[0]
	m.in = slices.Clone(m.in[1:])
	return i, true
}

// send is Send by the words.
func (m *words) send(b []byte) int {
	n := 0
	for _, c := range b {
		if len(m.out) < m.room {
			m.out = append(m.out, c)
			n++
		}
	}
	return n
}

// sent is Sent by the words.
func (m *words) sent(n int) []byte {
	var l []byte
	for ; n > 0 && len(m.out) > 0; n-- {
		l = append(l, m.out[0])
		m.out = slices.Clone(m.out[1:])
	}
	return l
}

// pair is a line, and the same by the words.
func pair(room int) (*uart.Line, *words) { return uart.New(room), &words{room: room} }

// check holds what waits in l against the words.
func check(t *testing.T, l *uart.Line, m *words) {
	t.Helper()
	if l == nil {
		t.Fatalf("no line, want one of the room %d", m.room)
	}
	if in, out := l.Waits(); in != len(m.in) || out != len(m.out) {
		t.Fatalf("Waits = %d, %d, want %d, %d (room %d)", in, out, len(m.in), len(m.out), m.room)
	}
}

// checkReceive lets a byte come to both.
func checkReceive(t *testing.T, l *uart.Line, m *words, b byte, flags int) {
	t.Helper()
	if got, want := l.Receive(b, flags), m.receive(b, flags); got != want {
		t.Fatalf("Receive(%d, %d) = %v, want %v (room %d, %v)", b, flags, got, want, m.room, m.in)
	}
}

// checkRead reads from both.
func checkRead(t *testing.T, l *uart.Line, m *words) {
	t.Helper()
	got, ok := l.Read()
	if want, there := m.read(); got != want || ok != there {
		t.Fatalf("Read = %v, %v, want %v, %v (room %d)", got, ok, want, there, m.room)
	}
}

// checkSend sends b on both.
func checkSend(t *testing.T, l *uart.Line, m *words, b []byte) {
	t.Helper()
	was := slices.Clone(b)
	if got, want := l.Send(b), m.send(b); got != want {
		t.Fatalf("Send of %d bytes = %d, want %d (room %d)", len(b), got, want, m.room)
	}
	if !bytes.Equal(b, was) {
		t.Fatalf("Send changed %v to %v", was, b)
	}
}

// checkSent lets bytes of both go out.
func checkSent(t *testing.T, l *uart.Line, m *words, n int) {
	t.Helper()
	if got, want := l.Sent(n), m.sent(n); !bytes.Equal(got, want) {
		t.Fatalf("Sent(%d) = %v, want %v (room %d)", n, got, want, m.room)
	}
}

// drain takes all there is from both.
func drain(t *testing.T, l *uart.Line, m *words) {
	t.Helper()
	for len(m.in) > 0 {
		checkRead(t, l, m)
	}
	checkRead(t, l, m)
	checkSent(t, l, m, math.MaxInt)
	check(t, l, m)
}

// row is n bytes that tell their places.
func row(n int) []byte {
	b := make([]byte, n)
	for i := range b {
		b[i] = byte(i*7 + i>>8)
	}
	return b
}

// P9.1: New, its room at all bounds.
func TestNew(t *testing.T) {
	for _, room := range append(bounds(), 64, 4096, 1<<16+1<<32) {
		l := uart.New(room)
		if want := room >= 1 && room <= most; (l != nil) != want {
			t.Fatalf("New(%d) = %v", room, l)
		}
		if l != nil {
			m := &words{room: room}
			check(t, l, m)
			drain(t, l, m)
		}
	}
}

// The chapter's example: room 1.
func TestExample(t *testing.T) {
	l := uart.New(1)
	if !l.Receive('a', 0) || l.Receive('b', 0) {
		t.Fatal("a is lost, or b isn't")
	}
	if i, ok := l.Read(); !ok || i != (api.Item{B: 'a'}) {
		t.Fatalf("Read = %v, %v, want a", i, ok)
	}
	if !l.Receive('c', 0) {
		t.Fatal("c is lost")
	}
	if i, ok := l.Read(); !ok || i != (api.Item{B: 'c', Flags: api.LineOverrun}) {
		t.Fatalf("Read = %v, %v, want c with LineOverrun", i, ok)
	}
}

// P9.1: of the flags just LineFraming and LineBreak are taken, whatever else is among them.
func TestFlags(t *testing.T) {
	flags := bounds()
	for f := range 64 {
		flags = append(flags, f, ^f, f|1<<62)
	}
	for k := range 64 {
		flags = append(flags, 1<<k)
	}
	for _, f := range flags {
		l := uart.New(1)
		want := api.Item{B: 200, Flags: f & (framing | broken)}
		if !l.Receive(200, f) {
			t.Fatalf("flags %d: lost", f)
		}
		l.Receive(1, f) // is lost
		if i, ok := l.Read(); !ok || i != want {
			t.Fatalf("flags %d: Read = %v, %v, want %v", f, i, ok, want)
		}
		want.Flags |= overrun
		l.Receive(200, f)
		if i, ok := l.Read(); !ok || i != want {
			t.Fatalf("flags %d behind a loss: Read = %v, %v, want %v", f, i, ok, want)
		}
	}
}

// P9.1: any byte comes, and goes out.
func TestBytes(t *testing.T) {
	l, m := pair(256)
	for b := range 256 {
		checkReceive(t, l, m, byte(b), b)
		checkSend(t, l, m, []byte{byte(b)})
		check(t, l, m)
	}
	drain(t, l, m)
}

// P9.2: an overrun is told once, by the first item that is taken in behind it, however many were lost.
func TestOverrun(t *testing.T) {
	for losses := range 5 {
		for room := 1; room <= 5; room++ {
			l := uart.New(room)
			for range room {
				l.Receive(1, framing)
			}
			for range losses {
				if l.Receive(2, broken) {
					t.Fatalf("room %d: nothing is lost", room)
				}
			}
			for range room {
				if i, _ := l.Read(); i != (api.Item{B: 1, Flags: framing}) {
					t.Fatalf("room %d: Read = %v of what came ahead of the loss", room, i)
				}
			}
			for k := range room {
				l.Receive(byte(3+k), 0)
			}
			for k := range room {
				want := api.Item{B: byte(3 + k)}
				if k == 0 && losses > 0 {
					want.Flags = overrun
				}
				if i, _ := l.Read(); i != want {
					t.Fatalf("room %d, %d losses: Read = %v, want %v", room, losses, i, want)
				}
			}
		}
	}
}

// P9.2: a second overrun is told, too; one that was told, but not read, isn't told again.
func TestOverruns(t *testing.T) {
	l, m := pair(2)
	for round := range 50 {
		for k := range 2 + round%4 {
			checkReceive(t, l, m, byte(round), k)
		}
		checkRead(t, l, m)
		if round%3 == 0 {
			checkRead(t, l, m)
			checkRead(t, l, m) // nothing: what is still to be told stays so
		}
		check(t, l, m)
	}
	drain(t, l, m)
}

// P9.1: nothing is lost on the way out: Send takes what there is room for, tells how many, and no overrun comes of it.
func TestSend(t *testing.T) {
	for room := 1; room <= 9; room++ {
		for first := range 12 {
			for second := range 12 {
				for n := -2; n < 12; n++ {
					l, m := pair(room)
					checkSend(t, l, m, row(first))
					checkSend(t, l, m, row(second))
					check(t, l, m)
					checkSent(t, l, m, n)
					check(t, l, m)
					checkSend(t, l, m, row(second+5))
					checkReceive(t, l, m, 1, 0)
					drain(t, l, m)
				}
			}
		}
	}
}

// P9.1: Sent, its number at all bounds.
func TestSentBounds(t *testing.T) {
	for _, n := range bounds() {
		for _, have := range []int{0, 1, 2, 3, 256} {
			l, m := pair(256)
			checkSend(t, l, m, row(have))
			checkSent(t, l, m, n)
			check(t, l, m)
			drain(t, l, m)
		}
	}
}

// P9.1: a list that is nil and one without elements are the same, in and out.
func TestNothing(t *testing.T) {
	l, m := pair(1)
	checkSend(t, l, m, nil)
	checkSend(t, l, m, []byte{})
	check(t, l, m)
	checkSend(t, l, m, []byte{1})
	checkSend(t, l, m, nil)
	checkSent(t, l, m, 0)
	checkSent(t, l, m, -1)
	check(t, l, m)
	drain(t, l, m)
}

// P9.1: each row has the room for itself: what one does changes nothing of the other.
func TestRowsApart(t *testing.T) {
	l, m := pair(3)
	checkSend(t, l, m, row(5))
	for k := range 5 {
		checkReceive(t, l, m, byte(k), 0)
	}
	check(t, l, m)
	checkSent(t, l, m, 1)
	checkReceive(t, l, m, 9, 0)
	check(t, l, m)
	checkRead(t, l, m)
	checkSend(t, l, m, row(5))
	check(t, l, m)
	drain(t, l, m)
}

// P9.1: as many as there is room for, and no more, of the smallest rooms to the greatest.
func TestRooms(t *testing.T) {
	for _, room := range []int{1, 2, 3, 7, 8, 9, 15, 16, 17, 64, 255, 256, 4096, most - 1, most} {
		l := uart.New(room)
		b := row(room + 3)
		for i := range room {
			if !l.Receive(b[i], i) {
				t.Fatalf("room %d: %d is lost", room, i)
			}
		}
		if l.Receive(1, 0) || l.Receive(2, 0) || l.Send(b[:room-1]) != room-1 || l.Send(b[room-1:]) != 1 || l.Send(b) != 0 {
			t.Fatalf("room %d: too many, or too few", room)
		}
		if in, out := l.Waits(); in != room || out != room {
			t.Fatalf("room %d: Waits = %d, %d", room, in, out)
		}
		for i := range room {
			if got, ok := l.Read(); !ok || got != (api.Item{B: b[i], Flags: i & (framing | broken)}) {
				t.Fatalf("room %d: Read = %v, %v at %d", room, got, ok, i)
			}
		}
		if _, ok := l.Read(); ok || !bytes.Equal(l.Sent(room+1), b[:room]) || len(l.Sent(1)) != 0 {
			t.Fatalf("room %d: other things go out", room)
		}
	}
}

// P9.1: of a list that is longer than any room the first bytes are taken.
func TestLong(t *testing.T) {
	b := row(3 * most)
	for _, room := range []int{1, 256, most} {
		l, m := pair(room)
		if n := l.Send(b); n != room || !bytes.Equal(l.Sent(len(b)), b[:room]) {
			t.Fatalf("room %d: Send = %d", room, n)
		}
		check(t, l, m)
	}
}

// P9.1, P9.2: all rows of calls, of small rooms.
func TestEach(t *testing.T) {
	const calls = 7
	for room := 1; room <= 2; room++ {
		total := 1
		for range calls {
			total *= 5
		}
		for n := range total {
			l, m := pair(room)
			for k, rest := 0, n; k < calls; k, rest = k+1, rest/5 {
				switch rest % 5 {
				case 0:
					checkReceive(t, l, m, byte(k), 0)
				case 1:
					checkReceive(t, l, m, byte(k), framing)
				case 2:
					checkRead(t, l, m)
				case 3:
					checkSend(t, l, m, []byte{byte(k), byte(k + 50)})
				default:
					checkSent(t, l, m, 1)
				}
				check(t, l, m)
			}
			drain(t, l, m)
		}
	}
}

// P9.1, P9.2: any calls, one behind the other.
func TestAny(t *testing.T) {
	c := rand.New(rand.NewPCG(9, 1))
	for range 400 {
		l, m := pair(1 + c.IntN(1+c.IntN(60)))
		fills := 1 + c.IntN(9)
		for range 500 {
			if c.IntN(100) == 0 {
				fills = 1 + c.IntN(9) // the rows tend to be full, or to be empty
			}
			switch fill, in := c.IntN(10) < fills, c.IntN(2) == 0; {
			case fill && in:
				checkReceive(t, l, m, byte(c.IntN(256)), c.IntN(16)-4)
			case fill:
				checkSend(t, l, m, row(c.IntN(9)))
			case in:
				checkRead(t, l, m)
			default:
				checkSent(t, l, m, c.IntN(9)-1)
			}
			check(t, l, m)
		}
		drain(t, l, m)
	}
}

// P9.2: what came and wasn't lost is read in its order, what was taken to be sent goes out in its order, over many times the room.
func TestOrder(t *testing.T) {
	c := rand.New(rand.NewPCG(9, 2))
	for range 100 {
		l := uart.New(1 + c.IntN(30))
		var came, read, taken, out []byte
		for n := range 1000 {
			if l.Receive(byte(n), 0) {
				came = append(came, byte(n))
			}
			b := row(c.IntN(5))
			taken = append(taken, b[:l.Send(b)]...)
			for c.IntN(2) == 0 {
				if i, ok := l.Read(); ok {
					read = append(read, i.B)
				}
				out = append(out, l.Sent(c.IntN(6))...)
			}
		}
		for i, ok := l.Read(); ok; i, ok = l.Read() {
			read = append(read, i.B)
		}
		out = append(out, l.Sent(most)...)
		if !bytes.Equal(came, read) || !bytes.Equal(taken, out) {
			t.Fatal("another order")
		}
	}
}

// R4: what Send was handed may be written over, and isn't kept; what lies behind it is neither read nor written.
func TestHandedIn(t *testing.T) {
	l, m := pair(8)
	b := row(8)
	checkSend(t, l, m, b[:3])
	clear(b)
	checkSend(t, l, m, []byte{7, 8})
	if !bytes.Equal(b, make([]byte, 8)) {
		t.Errorf("what lies behind is written: %v", b)
	}
	checkSend(t, l, m, b[:1])
	drain(t, l, m)
}

// R4: what Sent answers may be written over, with what lies behind it, and what comes later doesn't change it.
func TestAnswered(t *testing.T) {
	l, m := pair(20)
	checkSend(t, l, m, row(12))
	one, two := l.Sent(3), l.Sent(3)
	m.sent(6)
	over := one[:cap(one)]
	for i := range over {
		over[i] = 99
	}
	_ = append(one[:0], 77, 78, 79, 80, 81)
	if !bytes.Equal(two, row(6)[3:]) {
		t.Errorf("a second answer is changed: %v", two)
	}
	none := l.Sent(0)
	_ = append(none, 1, 2, 3)
	checkSend(t, l, m, row(20))
	check(t, l, m)
	if !bytes.Equal(two, row(6)[3:]) {
		t.Errorf("an answer is changed later: %v", two)
	}
	drain(t, l, m)
}

// R6: the same calls have the same answers, whatever was asked between, and whatever other lines do.
func TestOneAnswer(t *testing.T) {
	c := rand.New(rand.NewPCG(9, 3))
	for range 200 {
		room := 1 + c.IntN(9)
		l, o, other := uart.New(room), uart.New(room), uart.New(room)
		for range 100 {
			b, n := byte(c.IntN(256)), c.IntN(5)
			switch c.IntN(4) {
			case 0:
				if l.Receive(b, n) != o.Receive(b, n) {
					t.Fatal("Receive has two answers")
				}
			case 1:
				i, ok := l.Read()
				if j, there := o.Read(); i != j || ok != there {
					t.Fatal("Read has two answers")
				}
			case 2:
				if l.Send(row(n)) != o.Send(row(n)) {
					t.Fatal("Send has two answers")
				}
			default:
				if !bytes.Equal(l.Sent(n), o.Sent(n)) {
					t.Fatal("Sent has two answers")
				}
			}
			o.Waits()
			other.Receive(b, n)
			other.Send([]byte{b})
		}
	}
}

// P1: no call panics, of what New answers that is no line, too.
func TestNoLine(t *testing.T) {
	l := uart.New(0)
	i, ok := l.Read()
	in, out := l.Waits()
	if i != (api.Item{}) || ok || in != 0 || out != 0 {
		t.Error("there are items, or bytes")
	}
	if l.Receive(1, 0) || l.Send([]byte{1}) != 0 || len(l.Sent(1)) != 0 {
		t.Error("there is room")
	}
}

// P1, R1: every call ends and none panics, at any argument.
func FuzzAll(f *testing.F) {
	f.Add(1, 9, []byte{1, 2, 9, 100, 200, 9, 250})
	f.Add(0, -1, []byte{0, 200, 255})
	f.Add(most+1, math.MinInt, []byte{3, 3, 64})
	f.Add(math.MaxInt, math.MaxInt, []byte{130, 255})
	f.Fuzz(func(t *testing.T, room, n int, calls []byte) {
		if l := uart.New(room); (l != nil) != (room >= 1 && room <= most) {
			t.Fatalf("New(%d) = %v", room, l)
		}
		l, m := pair(int(uint(room)%20) + 1)
		for i, b := range calls {
			switch {
			case b < 80:
				checkReceive(t, l, m, b, n+i)
			case b < 128:
				checkRead(t, l, m)
			case b < 190:
				checkSend(t, l, m, calls[i:])
			case b < 250:
				checkSent(t, l, m, int(b)-200)
			default:
				checkSent(t, l, m, n)
			}
			check(t, l, m)
		}
		drain(t, l, m)
	})
}

package ipc_test

import (
	"bytes"
	"math"
	"math/rand/v2"
	"slices"
	"testing"

	"betony/api"
	"betony/ipc"
)

const (
	most    = 4096 // the greatest room
	longest = 4096 // how many bytes a message has at most
)

// bounds are numbers at all bounds, on either side.
func bounds() []int {
	return []int{math.MinInt, math.MinInt + 1, -1 << 32, -most - 1, -most, -2, -1, 0, 1, 2, 3, 255, 256, 257, most - 1, most, most + 1, 65535, 65536, 65537, 1<<30 + 1, 1<<32 - 1, 1 << 32, 1<<32 + 1, most + 1<<32, math.MaxInt - 1, math.MaxInt}
}

// message is a message by the words: its bytes as a text, which nobody can write over.
type message struct {
	from int
	b    string
}

// words is a ring by the chapter's words.
type words struct {
	room int
	l    []message
}

// send is Send by the words.
func (m *words) send(from int, b []byte) api.Errno {
	if len(b) > longest {
		return api.ErrLimit
	}
	if len(m.l) >= m.room {
		return api.ErrFull
	}
	m.l = append(m.l, message{from, string(b)})
	return api.OK
}

// take is Take by the words.
func (m *words) take() (message, bool) {
	if len(m.l) == 0 {
		return message{}, false
	}
	x := m.l[0]
	m.l = slices.Clone(m.l[1:])
	return x, true
}

// pair is a ring, and the same by the words.
func pair(room int) (*ipc.Ring, *words) { return ipc.New(room), &words{room: room} }

// checkLen holds the length of r against the words.
func checkLen(t *testing.T, r *ipc.Ring, m *words) {
	t.Helper()
	if r == nil {
		t.Fatalf("no ring, want one of the room %d", m.room)
	}
	if r.Len() != len(m.l) {
		t.Fatalf("Len = %d, want %d (room %d)", r.Len(), len(m.l), m.room)
	}
}

// checkSend sends on both.
func checkSend(t *testing.T, r *ipc.Ring, m *words, from int, b []byte) {
	t.Helper()
	was := bytes.Clone(b)
	if got, want := r.Send(from, b), m.send(from, b); got != want {
		t.Fatalf("Send(%d, %d bytes) = %v, want %v (room %d, %d there)", from, len(b), got, want, m.room, len(m.l))
	}
	if !bytes.Equal(b, was) {
		t.Fatalf("Send changed %v to %v", was, b)
	}
	checkLen(t, r, m)
}

// checkTake takes from both, and answers the ring's message.
func checkTake(t *testing.T, r *ipc.Ring, m *words) api.Message {
	t.Helper()
	got, ok := r.Take()
	if want, there := m.take(); got.From != want.from || string(got.B) != want.b || ok != there {
		t.Fatalf("Take = %v, %v, want %v, %v (room %d)", got, ok, want, there, m.room)
	}
	checkLen(t, r, m)
	return got
}

// drain takes all there is from both.
func drain(t *testing.T, r *ipc.Ring, m *words) {
	t.Helper()
	for len(m.l) > 0 {
		checkTake(t, r, m)
	}
	checkTake(t, r, m)
}

// row is n bytes that tell their places, and k.
func row(n, k int) []byte {
	b := make([]byte, n)
	for i := range b {
		b[i] = byte(i*7 + i>>8 + k)
	}
	return b
}

// P14.1: New, its room at all bounds.
func TestNew(t *testing.T) {
	for _, room := range bounds() {
		r := ipc.New(room)
		if want := room >= 1 && room <= most; (r != nil) != want {
			t.Fatalf("New(%d) = %v", room, r)
		}
		if r != nil {
			m := &words{room: room}
			checkLen(t, r, m)
			drain(t, r, m)
		}
	}
}

// The chapter's example: room 1.
func TestExample(t *testing.T) {
	r := ipc.New(1)
	if e := r.Send(1, []byte("a")); e != api.OK {
		t.Fatalf("the first one is %v", e)
	}
	if e := r.Send(1, []byte("b")); e != api.ErrFull {
		t.Fatalf("the second one is %v", e)
	}
	if m, ok := r.Take(); !ok || m.From != 1 || string(m.B) != "a" || r.Len() != 0 {
		t.Fatalf("Take = %v, %v", m, ok)
	}
}

// P14.1: as many messages as there is room for, of each room there is, and no more; also when the first place isn't the first one's.
func TestRooms(t *testing.T) {
	for room := 1; room <= most; room++ {
		if room > 70 && room%97 != 0 && room < most-2 {
			continue
		}
		for _, ahead := range []int{0, 1, room / 2, room - 1} {
			r, m := pair(room)
			for k := range ahead {
				r.Send(k, nil)
				r.Take()
			}
			for k := range room {
				if e := r.Send(k-3, row(k%5, k)); e != api.OK {
					t.Fatalf("room %d: Send of the message %d = %v", room, k, e)
				}
				m.l = append(m.l, message{k - 3, string(row(k%5, k))})
			}
			checkSend(t, r, m, 9, nil)
			checkSend(t, r, m, 9, row(longest, 1))
			for k := range room {
				x, ok := r.Take()
				if !ok || x.From != k-3 || !bytes.Equal(x.B, row(k%5, k)) || r.Len() != room-k-1 {
					t.Fatalf("room %d: Take = %v, %v of the message %d", room, x, ok, k)
				}
			}
			m.l = nil
			drain(t, r, m)
		}
	}
}

// P14.1: a message has at most 4,096 bytes.
func TestLong(t *testing.T) {
	for _, n := range []int{0, 1, 2, 255, 256, 257, 1024, longest - 1, longest, longest + 1, longest + 2, 2 * longest, 65535, 65536, 65537, 65536 + longest, 1 << 20} {
		r, m := pair(2)
		checkSend(t, r, m, n, row(n, n))
		checkSend(t, r, m, -n, row(n, n+1))
		drain(t, r, m)
	}
}

// P14.1, R2, R3: what is too long is told ahead of what there is no room for; neither changes a thing.
func TestErrors(t *testing.T) {
	for _, room := range []int{1, 2, 5, most} {
		r, m := pair(room)
		for range room {
			if e := r.Send(1, make([]byte, longest+1)); e != api.ErrLimit {
				t.Fatalf("Send of too long a one = %v", e)
			}
			if e := r.Send(2, []byte("x")); e != api.OK {
				t.Fatalf("Send = %v", e)
			}
			m.l = append(m.l, message{2, "x"})
		}
		if e := r.Send(3, make([]byte, longest)); e != api.ErrFull {
			t.Fatalf("Send of one too many = %v", e)
		}
		if e := r.Send(4, make([]byte, longest+1)); e != api.ErrLimit {
			t.Fatalf("Send of too long a one, where there is no room = %v", e)
		}
		checkTake(t, r, m)
		checkSend(t, r, m, 5, []byte("y"))
		checkSend(t, r, m, 6, []byte("z"))
		drain(t, r, m)
	}
}

// P14.1, R3: where there is no message, what is answered is the zero one.
func TestNone(t *testing.T) {
	r := ipc.New(2)
	for range 5 {
		for range 3 {
			if m, ok := r.Take(); ok || m.From != 0 || m.B != nil || r.Len() != 0 {
				t.Fatalf("Take = %v, %v of none", m, ok)
			}
		}
		r.Send(7, []byte("seven"))
		r.Take()
	}
}

// P14.1: from any number, also one that is no environment's, any bytes.
func TestAnyWords(t *testing.T) {
	r, m := pair(3)
	for _, from := range bounds() {
		checkSend(t, r, m, from, []byte{byte(from)})
		checkTake(t, r, m)
		checkSend(t, r, m, from, nil)
		checkSend(t, r, m, -from, []byte{0})
		drain(t, r, m)
	}
	all := make([]byte, 256)
	for i := range all {
		all[i] = byte(i)
		checkSend(t, r, m, i, []byte{byte(i)})
		checkTake(t, r, m)
	}
	checkSend(t, r, m, 0, all)
	drain(t, r, m)
}

// P14.1, R3: a list that is nil and one without elements are the same, and a message of no bytes is one.
func TestNoBytes(t *testing.T) {
	r, m := pair(2)
	checkSend(t, r, m, 1, nil)
	checkSend(t, r, m, 2, []byte{})
	checkSend(t, r, m, 3, nil)
	checkSend(t, r, m, 3, []byte{})
	drain(t, r, m)
}

// P14.1, P14.2: all rows of calls, of small rooms.
func TestEach(t *testing.T) {
	const calls = 9
	for room := 1; room <= 4; room++ {
		total := 1
		for range calls {
			total *= 3
		}
		for n := range total {
			r, m := pair(room)
			for k, rest := 0, n; k < calls; k, rest = k+1, rest/3 {
				switch rest % 3 {
				case 0:
					checkSend(t, r, m, k, []byte{byte(k)})
				case 1:
					checkSend(t, r, m, -k, row(k%2*(longest+1), k))
				default:
					checkTake(t, r, m)
				}
			}
			drain(t, r, m)
		}
	}
}

// P14.1, P14.2: any calls, one behind the other.
func TestAny(t *testing.T) {
	c := rand.New(rand.NewPCG(14, 1))
	for range 400 {
		r, m := pair(1 + c.IntN(1+c.IntN(60)))
		sends := 1 + c.IntN(9)
		for range 500 {
			if c.IntN(100) == 0 {
				sends = 1 + c.IntN(9) // the ring tends to be full, or to be empty
			}
			switch {
			case c.IntN(10) >= sends:
				checkTake(t, r, m)
			case c.IntN(50) == 0:
				checkSend(t, r, m, c.Int()-c.Int(), row(longest-1+c.IntN(3), c.IntN(256)))
			default:
				checkSend(t, r, m, c.IntN(9), row(c.IntN(9), c.IntN(256)))
			}
		}
		drain(t, r, m)
	}
}

// P14.2: what was sent is taken in its order, each once, over many times the room.
func TestOrder(t *testing.T) {
	c := rand.New(rand.NewPCG(14, 2))
	for range 100 {
		r := ipc.New(1 + c.IntN(30))
		var sent, taken []int
		for n := range 1000 {
			if r.Send(n, row(n%3, n)) == api.OK {
				sent = append(sent, n)
			}
			for c.IntN(2) == 0 {
				m, ok := r.Take()
				if !ok {
					continue
				}
				taken = append(taken, m.From)
				if !bytes.Equal(m.B, row(m.From%3, m.From)) {
					t.Fatalf("%d has other bytes: %v", m.From, m.B)
				}
			}
		}
		for m, ok := r.Take(); ok; m, ok = r.Take() {
			taken = append(taken, m.From)
		}
		if !slices.Equal(sent, taken) {
			t.Fatalf("taken %v, sent %v", taken, sent)
		}
	}
}

// P14.2, R4: what Send was handed may be written over, and isn't kept; what lies behind it is neither read nor written.
func TestHandedIn(t *testing.T) {
	r, m := pair(4)
	b := row(8, 1)
	checkSend(t, r, m, 1, b[:3])
	checkSend(t, r, m, 2, b[3:3])
	checkSend(t, r, m, 3, b[:8:8])
	clear(b)
	checkSend(t, r, m, 4, b[:1])
	_ = append(b[:0], 9, 9, 9, 9)
	drain(t, r, m)
	long := make([]byte, longest, 2*longest)
	checkSend(t, r, m, 5, long)
	for _, x := range [][]byte{long[:cap(long)], b[4:]} {
		if !bytes.Equal(x, make([]byte, len(x))) {
			t.Errorf("what lies behind is written: %v", x)
		}
	}
	drain(t, r, m)
}

// P14.2, R4: what Take answers may be written over, with what lies behind it, and what comes later doesn't change it.
func TestAnswered(t *testing.T) {
	for _, n := range []int{0, 1, 3, 8, 33, longest} {
		r, m := pair(3)
		for k := range 3 {
			checkSend(t, r, m, k, row(n, k))
		}
		one, two := checkTake(t, r, m), checkTake(t, r, m)
		over := one.B[:cap(one.B)]
		for i := range over {
			over[i] = 99
		}
		_ = append(one.B[:0], 77, 78, 79, 80, 81)
		if !bytes.Equal(two.B, row(n, 1)) {
			t.Fatalf("a second answer is changed: %v", two)
		}
		for k := range 4 {
			checkSend(t, r, m, k, row(n, k+100))
		}
		drain(t, r, m)
		if two.From != 1 || !bytes.Equal(two.B, row(n, 1)) {
			t.Fatalf("an answer is changed later: %v", two)
		}
		behind := two.B[:cap(two.B)]
		checkSend(t, r, m, 1, row(n, 7))
		clear(behind)
		drain(t, r, m)
	}
}

// P14.2: one that is sent on, with the memory of what was taken, is by itself, too.
func TestSentOn(t *testing.T) {
	r, m := pair(2)
	checkSend(t, r, m, 1, []byte("round"))
	for k := range 9 {
		x := checkTake(t, r, m)
		checkSend(t, r, m, k, x.B)
		checkSend(t, r, m, k, x.B[1:])
		clear(x.B)
		checkTake(t, r, m)
		checkSend(t, r, m, k, []byte("square"))
	}
	drain(t, r, m)
}

// P14.2: the greatest room, with the longest messages.
func TestGreatest(t *testing.T) {
	r := ipc.New(most)
	b := row(longest, 0)
	for k := range most {
		b[0], b[longest-1] = byte(k), byte(k>>8)
		if e := r.Send(k, b); e != api.OK {
			t.Fatalf("Send of the message %d = %v", k, e)
		}
	}
	if e := r.Send(0, nil); e != api.ErrFull || r.Len() != most {
		t.Fatalf("Send = %v, Len = %d", e, r.Len())
	}
	for k := range most {
		b[0], b[longest-1] = byte(k), byte(k>>8)
		if m, ok := r.Take(); !ok || m.From != k || !bytes.Equal(m.B, b) {
			t.Fatalf("the message %d is another one", k)
		}
	}
	if _, ok := r.Take(); ok || r.Len() != 0 {
		t.Fatal("there are more")
	}
}

// R6: the same calls have the same answers, whatever was asked between, and whatever other rings do.
func TestOneAnswer(t *testing.T) {
	c := rand.New(rand.NewPCG(14, 3))
	for range 200 {
		room := 1 + c.IntN(9)
		r, o, other := ipc.New(room), ipc.New(room), ipc.New(room)
		for range 200 {
			n, b := c.IntN(9), row(c.IntN(9), c.IntN(256))
			if c.IntN(2) == 0 {
				if r.Send(n, b) != o.Send(n, b) {
					t.Fatal("Send has two answers")
				}
			} else {
				m, ok := r.Take()
				if x, there := o.Take(); m.From != x.From || !bytes.Equal(m.B, x.B) || ok != there {
					t.Fatal("Take has two answers")
				}
			}
			if o.Len() != o.Len() || r.Len() != o.Len() {
				t.Fatal("Len has two answers")
			}
			other.Send(n+1, b)
			if c.IntN(9) == 0 {
				other.Take()
			}
		}
	}
}

// P1: no call panics, of what New answers that is no ring, too.
func TestNoRing(t *testing.T) {
	for _, room := range []int{0, most + 1} {
		r := ipc.New(room)
		if m, ok := r.Take(); ok || m.From != 0 || len(m.B) != 0 || r.Len() != 0 {
			t.Error("there are messages")
		}
		if r.Send(1, nil) != api.ErrFull || r.Send(1, make([]byte, longest)) != api.ErrFull || r.Send(1, make([]byte, longest+1)) != api.ErrLimit || r.Len() != 0 {
			t.Error("there is room")
		}
	}
}

// P1, R1: every call ends and none panics, at any argument.
func FuzzAll(f *testing.F) {
	f.Add(1, 9, []byte{1, 2, 9, 100, 200, 9, 250})
	f.Add(0, -1, []byte{0, 200, 255})
	f.Add(most+1, math.MinInt, []byte{3, 3, 64})
	f.Add(math.MaxInt, math.MaxInt, []byte{130, 255})
	f.Fuzz(func(t *testing.T, room, from int, calls []byte) {
		if r := ipc.New(room); (r != nil) != (room >= 1 && room <= most) {
			t.Fatalf("New(%d) = %v", room, r)
		}
		r, m := pair(int(uint(room)%20) + 1)
		for i, b := range calls {
			switch {
			case b < 110:
				checkTake(t, r, m)
			case b < 250:
				checkSend(t, r, m, from+i, calls[i:])
			default:
				checkSend(t, r, m, from, make([]byte, longest+int(b)-252))
			}
		}
		drain(t, r, m)
	})
}

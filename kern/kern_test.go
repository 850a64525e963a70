package kern_test

import (
	"bytes"
	"math"
	"math/rand/v2"
	"slices"
	"testing"

	"betony/api"
	"betony/kern"
)

const (
	use  = api.MayUse
	give = api.MayShare
	drop = api.MayDrop
	full = use | give | drop
)

// What the login has from the beginning on.
const (
	itsWindow = 65536
	itsLine   = 65537 // the line 0
)

// bounds are numbers at all bounds, on either side.
func bounds() []int {
	return []int{math.MinInt, math.MinInt + 1, -1 << 32, -api.Far - 1, -api.Far, -65536, -2, -1, 0, 1, 2, 3, 7, 8, 9, 15, 16, 17, 20, 21, 255, 256, 257, 511, 512, 513, 65535, 65536, 65537, 0x10ffff, 0x110000, 1<<24 - 1, 1 << 24, 1<<25 - 1, 1 << 25, api.Far - 1, api.Far, api.Far + 1, 1<<32 - 1, 1 << 32, 1<<32 + 1, 1<<32 + 65536, math.MaxInt - 1, math.MaxInt}
}

// pair is a kernel, and the words that it is held against.
type pair struct {
	*testing.T
	k    *kern.Kernel
	m    *words
	last int // the greatest number of a window so far
}

// pairNew is a new kernel, and its words.
func pairNew(t *testing.T, w, h, envs, lines int) *pair {
	t.Helper()
	k := kern.New(w, h, envs, lines)
	if k == nil {
		t.Fatalf("New(%d, %d, %d, %d) is nil", w, h, envs, lines)
	}
	p := &pair{t, k, wordsNew(w, h, envs, lines), 1}
	p.whole()
	return p
}

// freed is a pair whose path isn't trusted any more, with the focus at 1.
func freed(t *testing.T, w, h, envs, lines int) *pair {
	t.Helper()
	p := pairNew(t, w, h, envs, lines)
	p.ok(0, api.OpRelease, 1)
	return p
}

// whole holds all that can be asked, but events and what waits in lines, rings and queues, against the words.
func (p *pair) whole() {
	p.Helper()
	if p.k.Focus() != p.m.focus || p.k.Trusted() != p.m.trusted {
		p.Fatalf("Focus = %d, Trusted = %v, want %d, %v", p.k.Focus(), p.k.Trusted(), p.m.focus, p.m.trusted)
	}
	if l := p.k.Windows(); !slices.Equal(l, p.m.windows) {
		p.Fatalf("Windows = %v, want %v", l, p.m.windows)
	}
	for env := -1; env <= len(p.m.alive); env++ {
		if p.k.Alive(env) != p.m.living(env) {
			p.Fatalf("Alive(%d) = %v", env, p.k.Alive(env))
		}
		for window := -1; window <= p.last+1; window++ {
			if got := p.k.Uses(env, window); got != p.m.uses(env, window) {
				p.Fatalf("Uses(%d, %d) = %v", env, window, got)
			}
		}
	}
	p.cells()
}

// cells holds the screen's cells, and the notes of them, against the words.
func (p *pair) cells() {
	p.Helper()
	for y := -1; y <= p.m.h; y++ {
		for x := -1; x <= p.m.w; x++ {
			var want api.Cell
			if x >= 0 && y >= 0 && x < p.m.w && y < p.m.h {
				want = p.m.cells[y*p.m.w+x]
			}
			if c := p.k.At(x, y); c != want {
				p.Fatalf("At(%d, %d) = %v, want %v", x, y, c, want)
			}
			w, env := p.k.Owner(x, y)
			if ww, we := p.m.owner(x, y); w != ww || env != we {
				p.Fatalf("Owner(%d, %d) = %d, %d, want %d, %d", x, y, w, env, ww, we)
			}
		}
	}
	if l := p.k.Notes(); !slices.Equal(l, p.m.notes) {
		p.Fatalf("Notes = %v, want %v", l, p.m.notes)
	}
	p.m.notes = nil
}

// mayWrite is the cells that env may write: those of windows that it uses.
func (p *pair) mayWrite(env int) map[[2]int]int {
	may := map[[2]int]int{}
	for y := range p.m.h {
		for x := range p.m.w {
			if w, _ := p.k.Owner(x, y); w != 0 && p.k.Uses(env, w) {
				may[[2]int{x, y}] = w
			}
		}
	}
	return may
}

// call calls both.
func (p *pair) call(env int, b []byte, w ...int) (int, []byte, api.Errno) {
	p.Helper()
	may, trusted := p.mayWrite(env), p.k.Trusted()
	n, out, e := p.k.Call(env, w, b)
	wn, wout, we := p.m.call(env, w, b)
	if n != wn || !bytes.Equal(out, wout) || e != we {
		p.Fatalf("Call(%d, %v, %d bytes) = %d, %q, %v, want %d, %q, %v", env, w, len(b), n, out, e, wn, wout, we)
	}
	if e == api.OK && w[0] == api.OpWin {
		p.learn()
	}
	// What P16.3 and P16.4 say of each call, beside the words.
	for _, c := range p.m.notes {
		if may[[2]int{c.X, c.Y}] == 0 || trusted && env != 0 {
			p.Fatalf("Call(%d, %v) writes %v", env, w, c)
		}
	}
	p.whole()
	return n, out, e
}

// learn tells the words which number the new window has: one above all so far.
func (p *pair) learn() {
	p.Helper()
	for _, w := range p.k.Windows() {
		if p.m.window(w.Id) < 0 {
			if w.Id <= p.last {
				p.Fatalf("the new window has the number %d, behind %d", w.Id, p.last)
			}
			p.last = w.Id
			p.m.learn(w.Id)
			return
		}
	}
	p.Fatal("there is no new window")
}

// ok calls, without bytes, what has no error.
func (p *pair) ok(env int, w ...int) int {
	p.Helper()
	return p.wants(api.OK, env, w...)
}

// wants calls, without bytes, what has that error.
func (p *pair) wants(want api.Errno, env int, w ...int) int {
	p.Helper()
	n, _, e := p.call(env, nil, w...)
	if e != want {
		p.Fatalf("Call(%d, %v) = %v, want %v", env, w, e, want)
	}
	return n
}

// scan scans on both.
func (p *pair) scan(l ...byte) {
	p.Helper()
	for _, c := range l {
		if ok, want := p.k.Scan(c), p.m.scan(c); ok != want {
			p.Fatalf("Scan(%x) = %v, want %v", c, ok, want)
		}
	}
}

// pump pumps on both.
func (p *pair) pump() bool {
	p.Helper()
	ok, want := p.k.Pump(), p.m.pump()
	if ok != want {
		p.Fatalf("Pump = %v, want %v", ok, want)
	}
	p.whole()
	return ok
}

// keys scans and pumps.
func (p *pair) keys(l ...byte) {
	p.Helper()
	for _, c := range l {
		p.scan(c)
		p.pump()
	}
}

// serial lets a byte come on both.
func (p *pair) serial(n int, b byte, flags int) bool {
	p.Helper()
	ok, want := p.k.Serial(n, b, flags), p.m.receive(n, b, flags)
	if ok != want {
		p.Fatalf("Serial(%d, %d, %d) = %v, want %v", n, b, flags, ok, want)
	}
	return ok
}

// sent lets bytes go out on both.
func (p *pair) sent(n, most int) []byte {
	p.Helper()
	out, want := p.k.Sent(n, most), p.m.sent(n, most)
	if !bytes.Equal(out, want) {
		p.Fatalf("Sent(%d, %d) = %q, want %q", n, most, out, want)
	}
	return out
}

// tick goes on on both.
func (p *pair) tick() {
	p.Helper()
	p.k.Tick()
	p.m.tick()
	p.whole()
}

// next takes the first event of both.
func (p *pair) next(env int) (api.Event, bool) {
	p.Helper()
	e, ok := p.k.Next(env)
	if we, wok := p.m.next(env); e != we || ok != wok {
		p.Fatalf("Next(%d) = %v, %v, want %v, %v", env, e, ok, we, wok)
	}
	return e, ok
}

// told takes all events of env, and holds them against what is wanted.
func (p *pair) told(env int, want ...api.Event) {
	p.Helper()
	var l []api.Event
	for e, ok := p.next(env); ok; e, ok = p.next(env) {
		l = append(l, e)
	}
	if !slices.Equal(l, want) {
		p.Fatalf("%d is told %v, want %v", env, l, want)
	}
}

// drain takes all that waits anywhere.
func (p *pair) drain() {
	p.Helper()
	for p.pump() {
	}
	for env := range p.m.alive {
		for ok := true; ok; {
			_, ok = p.next(env)
		}
	}
	for n := range p.m.lines {
		p.sent(n, math.MaxInt)
	}
	for _, h := range p.m.slots {
		for h != nil && h.kind != api.OfWindow && h.rights&use != 0 {
			op := api.OpRead
			if h.kind == api.OfRing {
				op = api.OpTake
			}
			if _, _, e := p.call(h.env, nil, op, h.name); e != api.OK {
				break
			}
		}
	}
	for range 12 {
		p.tick()
	}
	for env := range p.m.alive {
		for ok := true; ok; {
			_, ok = p.next(env)
		}
	}
}

// key, focus and timer are events.
func key(code, mods int) api.Event { return api.Event{Kind: api.EvKey, A: code, B: mods} }
func focus(has int) api.Event      { return api.Event{Kind: api.EvFocus, A: has} }
func timer(id int) api.Event       { return api.Event{Kind: api.EvTimer, A: id} }

// P16.1, R1: New at all bounds.
func TestNew(t *testing.T) {
	within := func(n, low, high int) bool { return low <= n && n <= high }
	some := []int{math.MinInt, -1, 0, 1, 8, 9, 16, 17, 512, 513, 1<<32 + 1, math.MaxInt}
	for _, w := range some {
		for _, h := range some {
			for _, envs := range some {
				for _, lines := range some {
					want := within(w, 1, 512) && within(h, 1, 512) && within(envs, 1, 16) && within(lines, 0, 8)
					if k := kern.New(w, h, envs, lines); (k != nil) != want {
						t.Fatalf("New(%d, %d, %d, %d) is nil: %v", w, h, envs, lines, k == nil)
					}
				}
			}
		}
	}
}

// P16.1: each number of environments and of lines: just these are there.
func TestNewHas(t *testing.T) {
	for envs := 1; envs <= 16; envs++ {
		for lines := 0; lines <= 8; lines++ {
			p := pairNew(t, 3, 2, envs, lines)
			for n := -1; n <= 9; n++ {
				if ok := p.serial(n, 'a', 0); ok != (n >= 0 && n < lines) {
					t.Fatalf("the line %d of %d: %v", n, lines, ok)
				}
			}
			for _, env := range bounds() {
				if p.k.Alive(env) != (env >= 0 && env < envs) {
					t.Fatalf("Alive(%d) of %d", env, envs)
				}
				p.told(env)
			}
		}
	}
}

// The words of the chapter: the login has window 1, of the whole screen, and capabilities, minted in this order, with just these rights.
func TestBegin(t *testing.T) {
	p := pairNew(t, 4, 3, 3, 2)
	if !p.k.Trusted() || p.k.Focus() != 0 {
		t.Fatal("the path isn't trusted")
	}
	if l := p.k.Windows(); !slices.Equal(l, []api.Window{{Id: 1, R: api.Rect{W: 4, H: 3}}}) {
		t.Fatal(l)
	}
	p.ok(0, api.OpTop, itsWindow)
	p.wants(api.ErrPerm, 0, api.OpShare, itsWindow, 1, use)
	p.wants(api.ErrPerm, 0, api.OpDrop, itsWindow)
	if n := p.ok(0, api.OpRevoke, itsWindow); n != 0 {
		t.Fatal(n)
	}
	for i := range 2 {
		p.serial(i, byte('a'+i), api.LineBreak)
		if n := p.ok(0, api.OpRead, itsLine+i); n != 'a'+i+256*api.LineBreak {
			t.Fatal(n)
		}
		if p.ok(0, api.OpShare, itsLine+i, 1, full) != 65536+3+i {
			t.Fatal("the first free slot")
		}
		p.ok(1, api.OpSend, 65536+3+i)
	}
	p.wants(api.ErrStale, 0, api.OpRead, itsLine+4)
	p.wants(api.ErrPerm, 0, api.OpRead, itsLine+2)
	if p.ok(0, api.OpDrop, itsLine) != 2 {
		t.Fatal("the line's capability, and the one below it")
	}
	if p.ok(0, api.OpRing) != 2*65536+1 {
		t.Fatal("the slot's next generation")
	}
}

// The chapter's example: OpFill of another one's window.
func TestExample(t *testing.T) {
	p := freed(t, 4, 3, 3, 0)
	a := p.ok(1, api.OpWin, 0, 0, 4, 3)
	p.wants(api.ErrPerm, 2, api.OpFill, a, 0, 0, 4, 3, 'x', 0, 0, 0)
	p.wants(api.ErrPerm, 0, api.OpFill, a, 0, 0, 4, 3, 'x', 0, 0, 0)
	if p.ok(1, api.OpFill, a, 1, 1, 9, 1, 'x', 1, 2, 3) != 3 {
		t.Fatal("three cells")
	}
}

// P16.1, R2: errors ahead of what the operation does: environments, no words, kinds, numbers of words.
func TestShape(t *testing.T) {
	p := pairNew(t, 3, 2, 3, 1)
	p.ok(0, api.OpKill, 2)
	for _, env := range append(bounds(), 2, 3) {
		want := api.ErrArg
		if env < 0 || env > 1 {
			want = api.ErrNone
		}
		p.wants(want, env)
		for _, op := range bounds() {
			if op >= 1 && op <= 20 {
				continue
			}
			if want == api.ErrArg {
				p.wants(api.ErrKind, env, op)
				p.wants(api.ErrKind, env, op, 1, 2, 3)
				continue
			}
			p.wants(want, env, op)
		}
	}
	for op := api.OpWin; op <= api.OpKill; op++ {
		for n := range 13 {
			if n == behind[op-1] {
				continue
			}
			w := append([]int{op}, make([]int, n)...)
			p.wants(api.ErrArg, 0, w...)
			p.wants(api.ErrArg, 1, w...)
			p.wants(api.ErrNone, 2, w...)
		}
		p.wants(api.ErrArg, 0, append([]int{op}, make([]int, 100000)...)...)
	}
}

// P16.1: OpWin: where a window may be, who has it, and what it may do with it.
func TestWin(t *testing.T) {
	p := freed(t, 6, 4, 3, 0)
	for _, r := range []api.Rect{{W: 6, H: 4}, {X: 5, Y: 3, W: 1, H: 1}, {X: 2, Y: 1, W: 3, H: 2}, {W: 1, H: 4}} {
		a := p.ok(2, api.OpWin, r.X, r.Y, r.W, r.H)
		if w := p.k.Windows()[0]; w.R != r || w.Env != 2 || w.Hidden {
			t.Fatal(w)
		}
		b := p.ok(2, api.OpShare, a, 1, full)
		p.ok(1, api.OpDrop, b)
		p.ok(2, api.OpFill, a, 0, 0, 9, 9, 'w', 0, 0, 0)
	}
	for _, n := range bounds() {
		for i := range 4 {
			w := []int{api.OpWin, 1, 1, 2, 2}
			w[1+i] = n
			if _, _, e := p.call(1, nil, w...); e == api.OK {
				p.ok(1, api.OpDrop, p.m.all(1)[0].name)
			}
		}
	}
}

// P16.1: OpMove, OpTop, OpHide, their numbers at all bounds.
func TestPlace(t *testing.T) {
	p := freed(t, 6, 4, 3, 0)
	a := p.ok(1, api.OpWin, 0, 0, 4, 3)
	b := p.ok(2, api.OpWin, 2, 1, 4, 3)
	for _, n := range bounds() {
		for i := range 4 {
			w := []int{api.OpMove, a, 1, 1, 2, 2}
			w[2+i] = n
			p.call(1, nil, w...)
		}
		p.ok(1, api.OpHide, a, n)
		if h := p.k.Windows()[1].Hidden; h != (n != 0) {
			t.Fatalf("OpHide of %d: %v", n, h)
		}
	}
	p.ok(1, api.OpHide, a, 0)
	p.ok(1, api.OpTop, a)
	p.ok(2, api.OpMove, b, 0, 0, 6, 4)
	if w, env := p.k.Owner(1, 1); w != 2 || env != 1 {
		t.Fatal(w, env)
	}
	p.ok(2, api.OpTop, b)
	if w, env := p.k.Owner(1, 1); w != 3 || env != 2 {
		t.Fatal(w, env)
	}
}

// P16.1: OpFill, OpText, OpCopy write what layer 13 writes.
func TestDraw(t *testing.T) {
	p := freed(t, 8, 5, 3, 0)
	a := p.ok(1, api.OpWin, 1, 1, 6, 4)
	b := p.ok(2, api.OpWin, 4, 2, 4, 2)
	if n := p.ok(1, api.OpFill, a, 0, 0, 6, 4, 0x4e00, 1<<24+5, 256, 255); n != 18 {
		t.Fatal(n)
	}
	n, _, _ := p.call(1, []byte("ab\u4e00\x01\u0301c\xff!!!!"), api.OpText, a, -1, 0, 3, 0, 1)
	if n != 6 || p.k.At(1, 1) != (api.Cell{R: 'b', P: api.Pen{Fg: 3, Flags: 1}}) || p.k.At(3, 1).R != -1 || p.k.At(5, 1).R != api.Bad {
		t.Fatal(n, p.k.At(1, 1))
	}
	if n := p.ok(1, api.OpCopy, a, 0, 0, 6, 1, 1, 3); n != 5 {
		t.Fatal(n)
	}
	if n := p.ok(2, api.OpCopy, b, 0, 0, 4, 2, 1, 1); n != 3 {
		t.Fatal(n)
	}
	if n := p.ok(1, api.OpText, a, 0, 0, 0, 0, 0); n != 0 {
		t.Fatal(n)
	}
	for _, n := range bounds() {
		for i := range 4 {
			w := []int{api.OpFill, a, 0, 0, 2, 2, 'f', 0, 0, 0}
			w[2+i] = n
			p.call(1, nil, w...)
		}
		for i := range 6 {
			w := []int{api.OpCopy, a, 0, 0, 2, 2, 1, 1}
			w[2+i] = n
			p.call(1, nil, w...)
		}
		for i := range 2 {
			w := []int{api.OpText, a, 0, 0, 0, 0, 0}
			w[2+i] = n
			p.call(1, []byte("xyz"), w...)
		}
	}
}

// P16.1: of OpFill and OpText the pen, and the rune, at all bounds; these are looked for behind the name.
func TestPens(t *testing.T) {
	p := freed(t, 3, 2, 2, 0)
	a := p.ok(1, api.OpWin, 0, 0, 3, 2)
	colour := func(c int) bool { return c >= 0 && c <= 256 || c >= 1<<24 && c < 1<<25 }
	for _, n := range bounds() {
		for i, right := range []bool{n >= -1 && n <= 0x10ffff, colour(n), colour(n), n >= 0 && n <= 255} {
			want := api.ErrRange
			if right {
				want = api.OK
			}
			w := []int{api.OpFill, a, 0, 0, 2, 2, 'f', 0, 0, 0}
			w[6+i] = n
			p.wants(want, 1, w...)
			w[1] = a + 1
			p.wants(api.ErrStale, 1, w...)
			w[1] = itsWindow
			p.wants(api.ErrPerm, 1, w...)
			// A rectangle of which nothing is written doesn't hide what is wrong.
			w[1], w[2] = a, api.Far+1
			p.wants(want, 1, w...)
			if i == 0 {
				continue
			}
			w = []int{api.OpText, a, 0, 0, 0, 0, 0}
			w[3+i] = n
			p.wants(want, 1, w...)
			w[1] = a + 1
			p.wants(api.ErrStale, 1, w...)
		}
	}
}

// each goes through the operations that check a name: with words of their own behind it.
func each(visit func(op, kind int, w []int)) {
	for op := api.OpWin; op <= api.OpKill; op++ {
		if kind := about[op]; kind != 0 {
			w := make([]int, 1+behind[op-1])
			w[0] = op
			if op == api.OpMove {
				w[4], w[5] = 1, 1
			}
			visit(op, kind, w)
		}
	}
}

// P16.1, R2: names: stale ones, another one's, of another kind, without MayUse, in this order.
func TestNames(t *testing.T) {
	p := freed(t, 3, 2, 3, 2)
	whole := []int{0, p.ok(1, api.OpWin, 0, 0, 3, 2), p.ok(0, api.OpShare, itsLine, 1, full), p.ok(1, api.OpRing)}
	each(func(op, kind int, w []int) {
		for k := api.OfWindow; k <= api.OfRing; k++ {
			for rights := 1; rights <= 7; rights++ {
				name := p.ok(1, api.OpShare, whole[k], 2, rights)
				w[1] = name
				want := api.OK
				switch {
				case k != kind:
					want = api.ErrKind
				case rights&use == 0:
					want = api.ErrPerm
				case op == api.OpRead:
					want = api.ErrEmpty // OpTake has what OpPut has brought
				}
				p.wants(want, 2, w...)
				p.wants(api.ErrPerm, 1, w...)
				p.wants(api.ErrPerm, 0, w...)
				p.ok(1, api.OpRevoke, whole[k])
				p.wants(api.ErrStale, 2, w...)
				p.wants(api.ErrStale, 0, w...)
			}
		}
	})
}

// P16.1, R1, R5: names at all bounds, for all operations that have one: no number beside the name stands for it.
func TestNameBounds(t *testing.T) {
	p := freed(t, 3, 2, 3, 1)
	a := p.ok(1, api.OpWin, 0, 0, 3, 2)
	l := bounds()
	for _, d := range []int{1, -1, 256, 65536, -65536, 1 << 32, -1 << 32, 1 << 48, -1 << 48, math.MinInt} {
		l = append(l, a+d, itsLine+d)
	}
	for _, name := range append(l, -a, -itsLine, a^math.MinInt, 2, 1, 0, 255, 65536+255) {
		if name == a {
			continue
		}
		each(func(op, kind int, w []int) {
			w[1] = name
			if _, _, e := p.call(1, nil, w...); e == api.OK {
				t.Fatalf("%v is of %d", w, name)
			}
		})
		for _, w := range [][]int{{api.OpDrop, name}, {api.OpRevoke, name}, {api.OpShare, name, 2, 1}} {
			if _, _, e := p.call(1, nil, w...); e == api.OK {
				t.Fatalf("%v is of %d", w, name)
			}
		}
	}
}

// P16.1: OpShare: no living environment is looked for ahead of layer 11's errors.
func TestShare(t *testing.T) {
	p := freed(t, 3, 2, 4, 1)
	p.ok(0, api.OpKill, 3)
	a := p.ok(1, api.OpWin, 0, 0, 3, 2)
	less := p.ok(1, api.OpShare, a, 2, use|give)
	for _, to := range append(bounds(), 3, 4) {
		there := to >= 0 && to < 3
		for _, rights := range bounds() {
			for _, name := range []int{a, less, itsWindow, 0, 77777} {
				_, _, e := p.call(1, nil, api.OpShare, name, to, rights)
				if !there && e != api.ErrNone {
					t.Fatalf("OpShare of %d with %d = %v", name, to, e)
				}
				if e == api.OK {
					p.ok(1, api.OpRevoke, a)
					less = p.ok(1, api.OpShare, a, 2, use|give)
				}
			}
		}
	}
	p.wants(api.ErrPerm, 2, api.OpShare, less, 0, full)
	p.wants(api.ErrPerm, 2, api.OpShare, less, 0, drop)
	back := p.ok(2, api.OpShare, less, 1, use)
	p.wants(api.ErrPerm, 1, api.OpShare, back, 1, use)
	p.ok(1, api.OpTop, back)
	if p.ok(2, api.OpRevoke, less) != 1 || p.ok(1, api.OpDrop, a) != 2 {
		t.Fatal("how many went")
	}
}

// P16.1: a window is gone when nobody has a capability of it any more, and not ahead of that, even if nobody else may use it.
func TestGone(t *testing.T) {
	p := freed(t, 3, 2, 4, 0)
	there := func(n int) {
		t.Helper()
		if l := p.k.Windows(); len(l) != 1+n {
			t.Fatalf("%d windows beside the login's, want %d", len(l)-1, n)
		}
	}
	a := p.ok(1, api.OpWin, 0, 0, 3, 2)
	b := p.ok(1, api.OpShare, a, 2, full)
	c := p.ok(2, api.OpShare, b, 3, full)
	there(1)
	p.ok(2, api.OpDrop, b)
	there(1)
	p.wants(api.ErrStale, 3, api.OpTop, c)
	d := p.ok(1, api.OpShare, a, 2, give|drop)
	p.ok(1, api.OpRevoke, a)
	there(1)
	p.wants(api.ErrStale, 2, api.OpDrop, d)
	p.ok(1, api.OpShare, a, 2, full)
	p.ok(1, api.OpShare, a, 1, full)
	p.ok(1, api.OpDrop, a)
	there(0)
	if w, _ := p.k.Owner(0, 0); w != 0 {
		t.Fatal("a window that is gone owns a cell")
	}
	p.ok(1, api.OpWin, 0, 0, 3, 2)
	p.ok(2, api.OpWin, 0, 0, 3, 2)
	there(2)
	p.ok(0, api.OpKill, 1)
	there(1)
}

// P16.1: a ring goes with the capability that it was made with: what is shared of it names it till then.
func TestRingGone(t *testing.T) {
	p := freed(t, 3, 2, 4, 0)
	for range 3 {
		a := p.ok(1, api.OpRing)
		o := p.ok(1, api.OpRing)
		b := p.ok(1, api.OpShare, a, 2, use)
		p.call(2, []byte("one"), api.OpPut, b)
		p.call(1, []byte("other"), api.OpPut, o)
		if n, out, _ := p.call(1, nil, api.OpTake, a); n != 2 || string(out) != "one" {
			t.Fatal(n, out)
		}
		p.ok(1, api.OpDrop, a)
		p.wants(api.ErrStale, 2, api.OpPut, b)
		if n, out, _ := p.call(1, nil, api.OpTake, o); n != 1 || string(out) != "other" {
			t.Fatal(n, out)
		}
		p.wants(api.ErrEmpty, 1, api.OpTake, o)
	}
}

// P16.1: OpRead, OpSend, Serial, Sent: layer 9's, with room for 256.
func TestLines(t *testing.T) {
	p := pairNew(t, 3, 2, 2, 8)
	for n := range 8 {
		p.wants(api.ErrEmpty, 0, api.OpRead, itsLine+n)
	}
	for i := range 258 {
		if ok := p.serial(7, byte(i), i); ok != (i < 256) {
			t.Fatalf("the item %d: %v", i, ok)
		}
	}
	for i := range 256 {
		if n := p.ok(0, api.OpRead, itsLine+7); n != i+256*(i&6) {
			t.Fatalf("the item %d is %d", i, n)
		}
	}
	p.wants(api.ErrEmpty, 0, api.OpRead, itsLine+7)
	p.serial(7, 255, math.MinInt)
	if n := p.ok(0, api.OpRead, itsLine+7); n != 255+256*api.LineOverrun {
		t.Fatal(n)
	}
	for _, want := range []int{200, 56, 0} {
		if n, _, _ := p.call(0, bytes.Repeat([]byte{'s'}, 200), api.OpSend, itsLine+3); n != want {
			t.Fatalf("OpSend = %d, want %d", n, want)
		}
	}
	for _, line := range bounds() {
		for _, n := range bounds() {
			p.sent(line, n)
		}
		if line < 0 || line > 7 {
			p.serial(line, 'x', 0)
		}
	}
}

// P16.1: OpRing, OpPut, OpTake: layer 14's, with room for 64.
func TestRings(t *testing.T) {
	p := pairNew(t, 3, 2, 3, 0)
	a := p.ok(1, api.OpRing)
	b := p.ok(1, api.OpShare, a, 2, use)
	long := bytes.Repeat([]byte{'l'}, 4097)
	for i := range 64 {
		if _, _, e := p.call(2-i%2, []byte{byte(i)}, api.OpPut, b-i%2*(b-a)); e != api.OK {
			t.Fatalf("the message %d: %v", i, e)
		}
	}
	for i, want := range []api.Errno{api.ErrLimit, api.ErrFull} {
		if _, _, e := p.call(2, long[i:], api.OpPut, b); e != want {
			t.Fatal(e)
		}
	}
	for i := range 64 {
		if n, out, e := p.call(1, nil, api.OpTake, a); n != 2-i%2 || !bytes.Equal(out, []byte{byte(i)}) || e != api.OK {
			t.Fatal(i, n, out, e)
		}
	}
	p.wants(api.ErrEmpty, 1, api.OpTake, a)
	p.call(1, long[1:], api.OpPut, a)
	p.call(1, nil, api.OpPut, a)
	if n, out, e := p.call(2, nil, api.OpTake, b); n != 1 || len(out) != 4096 || e != api.OK {
		t.Fatal(n, e)
	}
	if n, out, e := p.call(2, nil, api.OpTake, b); n != 1 || len(out) != 0 || e != api.OK {
		t.Fatal(n, out, e)
	}
	p.wants(api.ErrEmpty, 2, api.OpTake, b)
}

// P16.1, P16.2: OpTimer, OpCancel, Tick: layer 15's, told as events.
func TestTimers(t *testing.T) {
	p := pairNew(t, 3, 2, 3, 0)
	for _, n := range bounds() {
		p.call(1, nil, api.OpTimer, n, 1)
		p.call(2, nil, api.OpTimer, 7, n)
		p.call(2, nil, api.OpTimer, -7, n)
		p.call(0, nil, api.OpCancel, n)
	}
	p.ok(2, api.OpTimer, 9, 2)
	p.ok(2, api.OpTimer, 8, 3)
	p.ok(2, api.OpTimer, 7, 2)
	p.ok(0, api.OpTimer, 9, 2)
	if p.ok(1, api.OpCancel, 1) != 1 || p.ok(1, api.OpCancel, 1) != 0 || p.ok(1, api.OpCancel, 10) != 0 {
		t.Fatal("OpCancel")
	}
	p.tick()
	p.told(0)
	p.told(2)
	p.tick()
	p.told(0, timer(9))
	p.told(2, timer(7), timer(9))
	p.tick()
	p.told(2, timer(8))
	p.drain()
}

// P16.1: there are at most 1,024 timers.
func TestTimersFull(t *testing.T) {
	p := pairNew(t, 1, 1, 16, 0)
	for i := range 1024 {
		p.ok(i%16, api.OpTimer, i/16, 3)
	}
	p.wants(api.ErrFull, 3, api.OpTimer, 64, 1)
	p.wants(api.ErrRange, 3, api.OpTimer, 64, 0)
	p.wants(api.ErrArg, 3, api.OpTimer, -1, 0)
	p.ok(3, api.OpTimer, 63, 1)
	p.ok(0, api.OpKill, 5)
	for i := range 64 {
		p.ok(3, api.OpTimer, 64+i, 9)
	}
	p.wants(api.ErrFull, 3, api.OpTimer, 999, 1)
	p.drain()
}

// P16.1: OpFocus, OpRelease, OpKill: who may, when, and of whom, in the order of their errors.
func TestPower(t *testing.T) {
	for _, state := range []func(p *pair){
		func(p *pair) {},
		func(p *pair) { p.ok(0, api.OpRelease, 0) },
		func(p *pair) { p.ok(0, api.OpRelease, 1) },
		func(p *pair) { p.ok(0, api.OpRelease, 1); p.ok(1, api.OpFocus, 2) },
		func(p *pair) { p.ok(0, api.OpRelease, 1); p.keys(api.Attention) },
	} {
		for op := api.OpFocus; op <= api.OpKill; op++ {
			for env := -1; env <= 5; env++ {
				for _, to := range append(bounds(), 4, 5) {
					p := pairNew(t, 2, 1, 5, 0)
					p.ok(0, api.OpKill, 4)
					state(p)
					p.call(env, nil, op, to)
					p.drain()
				}
			}
		}
	}
}

// P16.1: the errors of the focus, the release and the kill, by their names.
func TestPowerErrors(t *testing.T) {
	p := pairNew(t, 2, 1, 4, 0)
	p.ok(0, api.OpKill, 3)
	p.wants(api.ErrPerm, 1, api.OpFocus, 9)
	p.wants(api.ErrFocus, 0, api.OpFocus, 9)
	p.wants(api.ErrPerm, 1, api.OpRelease, 9)
	p.wants(api.ErrNone, 0, api.OpRelease, 3)
	p.wants(api.ErrPerm, 1, api.OpKill, 9)
	for _, env := range []int{-1, 0, 3, 4} {
		p.wants(api.ErrNone, 0, api.OpKill, env)
	}
	p.ok(0, api.OpRelease, 0)
	p.wants(api.ErrState, 0, api.OpRelease, 9)
	p.wants(api.ErrPerm, 1, api.OpRelease, 9)
	p.wants(api.ErrNone, 0, api.OpFocus, 3)
	p.ok(0, api.OpFocus, 1)
	p.wants(api.ErrPerm, 0, api.OpFocus, 9)
	p.wants(api.ErrNone, 1, api.OpFocus, -1)
	p.ok(1, api.OpFocus, 1)
	p.ok(1, api.OpFocus, 2)
}

// P16.1: the quota, the slots, and both: a slot is looked for first where the kernel makes something new, the quota first where it shares.
func TestFull(t *testing.T) {
	p := freed(t, 4, 3, 6, 2)
	var rings [6]int
	for env := 1; env <= 3; env++ {
		for i := range 64 {
			if i%2 == 0 {
				rings[env] = p.ok(env, api.OpRing)
			} else {
				p.ok(env, api.OpWin, 0, 0, 1+i%4, 1)
			}
		}
		p.wants(api.ErrLimit, env, api.OpRing)
		p.wants(api.ErrLimit, env, api.OpWin, 0, 0, 1, 1)
		p.wants(api.ErrRange, env, api.OpWin, 0, 0, 0, 1)
		p.wants(api.ErrLimit, env, api.OpShare, rings[env], env, use)
	}
	for range 61 {
		rings[4] = p.ok(4, api.OpRing)
	}
	p.wants(api.ErrFull, 4, api.OpRing)
	p.wants(api.ErrFull, 5, api.OpWin, 0, 0, 1, 1)
	p.wants(api.ErrRange, 5, api.OpWin, 0, 0, 5, 1)
	p.wants(api.ErrFull, 4, api.OpShare, rings[4], 5, use)
	p.wants(api.ErrLimit, 4, api.OpShare, rings[4], 1, use)
	p.wants(api.ErrFull, 1, api.OpRing)
	p.wants(api.ErrFull, 1, api.OpWin, 0, 0, 1, 1)
	p.ok(1, api.OpDrop, rings[1])
	p.wants(api.ErrLimit, 2, api.OpRing)
	p.wants(api.ErrLimit, 2, api.OpWin, 0, 0, 1, 1)
	p.ok(1, api.OpWin, 0, 0, 1, 1)
	p.ok(0, api.OpKill, 2)
	p.ok(5, api.OpRing)
	p.drain()
}

// P16.1: all slots but the login's have windows.
func TestFullWindows(t *testing.T) {
	p := freed(t, 2, 1, 6, 0)
	for i := range 255 {
		p.ok(1+i/64, api.OpWin, i%2, 0, 1, 1)
	}
	if len(p.k.Windows()) != 256 {
		t.Fatal("256 windows")
	}
	p.wants(api.ErrRange, 5, api.OpWin, 2, 0, 1, 1)
	p.wants(api.ErrFull, 5, api.OpWin, 1, 0, 1, 1)
	p.wants(api.ErrFull, 1, api.OpWin, 1, 0, 1, 1)
	p.wants(api.ErrFull, 1, api.OpRing)
	p.ok(0, api.OpKill, 1)
	p.ok(5, api.OpWin, 1, 0, 1, 1)
}

// P16.2: keys are told to the one with the focus, with modifiers; what tells nothing is pumped, too.
func TestKeys(t *testing.T) {
	p := freed(t, 2, 1, 3, 0)
	p.told(0, focus(0))
	p.told(1, focus(1))
	if p.pump() {
		t.Fatal("there is none")
	}
	p.keys(0x60, 1, 0x81, 0x61, 2, 0xe0, 3, 0x62, 0xe1, 4, 0xe2, 0x53, 0x7f, 0x00, 0x35, 0xf6)
	p.told(1, key(1, 1), key(2, 3), key(3, 2), key(4, 4), key(0x53, 0))
	p.ok(1, api.OpFocus, 2)
	p.keys(5)
	p.ok(2, api.OpFocus, 2)
	p.keys(6)
	p.told(2, focus(1), key(5, 0), key(6, 0))
	p.told(1, focus(0))
	p.told(0)
	for c := range 256 {
		p.keys(byte(c))
	}
	p.drain()
}

// P16.2: the keyboard's queue has room for 64, and keeps attention.
func TestQueue(t *testing.T) {
	p := freed(t, 2, 1, 2, 0)
	for i := range 66 {
		if ok := p.k.Scan(byte(1 + i%20)); ok != (i < 64) || ok != p.m.scan(byte(1+i%20)) {
			t.Fatalf("the scancode %d: %v", i, ok)
		}
	}
	p.scan(0xf6, api.Attention, api.Attention, 1)
	for i := range 64 {
		p.pump()
		if p.k.Trusted() {
			t.Fatalf("trusted at %d", i)
		}
	}
	p.pump()
	if !p.k.Trusted() || p.pump() {
		t.Fatal("attention isn't kept")
	}
	for range 70 {
		p.scan(api.Attention)
	}
	p.drain()
}

// P16.2: at most 256 events wait; those that come then are lost: keys, the focus, timers.
func TestEvents(t *testing.T) {
	p := freed(t, 2, 1, 3, 0)
	fill := func(env int) {
		t.Helper()
		for len(p.m.events[env]) < 256 {
			p.keys(1)
		}
	}
	fill(1)
	p.keys(2, 3)
	p.ok(1, api.OpTimer, 5, 1)
	p.tick()
	p.ok(1, api.OpFocus, 2)
	p.ok(2, api.OpFocus, 1)
	if e, _ := p.next(1); e != focus(1) {
		t.Fatal(e)
	}
	p.keys(4, 5)
	for range 254 {
		if e, _ := p.next(1); e != key(1, 0) {
			t.Fatal(e)
		}
	}
	p.told(1, key(1, 0), key(4, 0))
	p.told(2, focus(1), focus(0))
	fill(1)
	p.ok(1, api.OpFocus, 2)
	fill(2)
	p.next(1)
	p.ok(2, api.OpFocus, 1)
	p.ok(1, api.OpFocus, 2)
	p.keys(api.Attention)
	p.drain()
}

// P16.2: Next of all numbers.
func TestNext(t *testing.T) {
	p := freed(t, 2, 1, 3, 0)
	for _, env := range append(bounds(), 3, 4) {
		e, ok := p.next(env)
		if want := env == 0 || env == 1; ok != want || ok && e != focus(env) {
			t.Fatalf("Next(%d) = %v, %v", env, e, ok)
		}
	}
}

// P16.2: a killed one has nothing any more, and is called by no one.
func TestKill(t *testing.T) {
	p := freed(t, 4, 3, 4, 1)
	line := p.ok(0, api.OpShare, itsLine, 1, full)
	more := p.ok(1, api.OpShare, line, 2, use)
	a, r := p.ok(1, api.OpWin, 0, 0, 4, 3), p.ok(1, api.OpRing)
	b, s := p.ok(1, api.OpShare, a, 2, full), p.ok(1, api.OpShare, r, 2, full)
	c := p.ok(2, api.OpWin, 1, 1, 2, 2)
	d := p.ok(2, api.OpShare, c, 1, full)
	e := p.ok(1, api.OpShare, d, 3, full)
	p.ok(1, api.OpTimer, 1, 1)
	p.ok(2, api.OpTimer, 1, 1)
	p.keys(1)
	p.told(0, focus(0))
	p.ok(0, api.OpKill, 1)
	if !p.k.Trusted() || p.k.Focus() != 0 || p.k.Alive(1) || len(p.k.Windows()) != 2 {
		t.Fatal("the focus", p.k.Windows())
	}
	p.told(0, focus(1))
	p.told(1)
	for _, name := range []int{more, b, s} {
		p.wants(api.ErrStale, 2, api.OpDrop, name)
	}
	p.wants(api.ErrStale, 3, api.OpTop, e)
	p.ok(2, api.OpTop, c)
	p.tick()
	p.told(1)
	p.told(2, timer(1))
	for _, op := range []int{api.OpRing, api.OpWin, 99} {
		p.wants(api.ErrNone, 1, op)
	}
	p.wants(api.ErrNone, 0, api.OpShare, itsLine, 1, use)
	p.wants(api.ErrNone, 0, api.OpRelease, 1)
	p.wants(api.ErrNone, 0, api.OpKill, 1)
	p.ok(0, api.OpRelease, 2)
	p.wants(api.ErrNone, 2, api.OpFocus, 1)
	p.told(0, focus(0))
	p.ok(0, api.OpKill, 3)
	if p.k.Trusted() || p.k.Focus() != 2 {
		t.Fatal("the killed one hadn't the focus")
	}
	p.told(0)
	p.told(2, focus(1))
	p.drain()
}

// The words of the chapter: while the path is trusted window 1 is what it has to be, whatever is called; else it is hidden.
func TestTrusted(t *testing.T) {
	p := pairNew(t, 4, 3, 3, 0)
	a := p.ok(1, api.OpWin, 0, 0, 4, 3)
	on := func() {
		t.Helper()
		if w := p.k.Windows()[0]; w != (api.Window{Id: 1, R: api.Rect{W: 4, H: 3}}) {
			t.Fatal(w)
		}
	}
	calls := func(state func()) {
		t.Helper()
		for _, w := range [][]int{{api.OpMove, itsWindow, 1, 1, 1, 1}, {api.OpHide, itsWindow, 1}, {api.OpHide, itsWindow, 0}, {api.OpTop, itsWindow}} {
			p.ok(0, w...)
			state()
			p.ok(1, api.OpTop, a)
			state()
			p.ok(1, api.OpHide, a, 0)
			state()
		}
	}
	on()
	calls(on)
	p.ok(0, api.OpRelease, 1)
	off := func() {
		t.Helper()
		for y := range 3 {
			for x := range 4 {
				if w, env := p.k.Owner(x, y); w == 1 || w == 2 && env != 1 {
					t.Fatal(w, env)
				}
			}
		}
	}
	off()
	calls(off)
	p.ok(0, api.OpMove, itsWindow, 1, 1, 1, 1)
	if n := p.ok(0, api.OpFill, itsWindow, 0, 0, 9, 9, 'x', 0, 0, 0); n != 0 {
		t.Fatal(n)
	}
	p.keys(api.Attention)
	on()
	if n := p.ok(0, api.OpFill, itsWindow, 0, 0, 9, 9, 'x', 0, 0, 0); n != 12 {
		t.Fatal(n)
	}
	if n := p.ok(1, api.OpFill, a, 0, 0, 9, 9, 'y', 0, 0, 0); n != 0 {
		t.Fatal(n)
	}
}

// P16.4: the step that takes attention makes the path trusted, from any state; no one is told the key.
func TestAttention(t *testing.T) {
	p := pairNew(t, 2, 1, 3, 0)
	p.keys(api.Attention)
	p.told(0)
	p.ok(0, api.OpRelease, 0)
	p.keys(api.Attention)
	p.told(0)
	p.ok(0, api.OpRelease, 2)
	p.scan(1, api.Attention, 2)
	p.pump()
	if p.k.Trusted() {
		t.Fatal("ahead of attention")
	}
	p.pump()
	if !p.k.Trusted() || p.k.Focus() != 0 {
		t.Fatal("attention")
	}
	p.pump()
	p.told(0, focus(0), focus(1), key(2, 0))
	p.told(2, focus(1), key(1, 0), focus(0))
	p.keys(0x60, api.Attention, 0x61, 0x62, api.Attention, 3)
	p.told(0, key(3, 7))
	p.ok(0, api.OpRelease, 1)
	p.keys(api.Attention|0x80, 4)
	p.told(1, focus(1), key(4, 7))
	if p.k.Trusted() {
		t.Fatal("attention that goes up")
	}
}

// R4: what is handed in isn't changed nor kept, and what is answered may be written over.
func TestMemory(t *testing.T) {
	p := freed(t, 3, 2, 2, 1)
	a, r := p.ok(1, api.OpWin, 0, 0, 3, 2), p.ok(1, api.OpRing)
	text, w := []byte("abcdef")[:2], []int{api.OpText, a, 0, 0, 1, 2, 3, 77}[:7]
	p.call(1, text, w...)
	for _, words := range [][]int{{api.OpPut, r}, {api.OpPut, r}} {
		p.call(1, text, words...)
	}
	p.call(0, text, api.OpSend, itsLine)
	if string(text[:6]) != "abcdef" || !slices.Equal(w[:8], []int{api.OpText, a, 0, 0, 1, 2, 3, 77}) {
		t.Fatal("what was handed in is changed")
	}
	copy(text, "zz")
	clear(w)
	p.whole()
	if _, out, _ := p.call(1, nil, api.OpTake, r); string(out) != "ab" {
		t.Fatal(out)
	} else {
		copy(out, "yy")
		_ = append(out, 'y')
	}
	if _, out, _ := p.call(1, nil, api.OpTake, r); string(out) != "ab" {
		t.Fatal(out)
	}
	out := p.k.Sent(0, 1)
	_ = append(out[:0], "!!!!"...)
	if string(p.k.Sent(0, 9)) != "b" {
		t.Fatal("what was sent is changed")
	}
	p.m.sent(0, 9)
	l := p.k.Windows()
	clear(l[:cap(l)])
	p.ok(1, api.OpFill, a, 0, 0, 1, 1, 'q', 0, 0, 0)
	p.k.Call(1, []int{api.OpFill, a, 0, 0, 2, 1, 'r', 0, 0, 0}, nil)
	notes := p.k.Notes()
	if len(notes) != 2 {
		t.Fatal(notes)
	}
	clear(notes[:cap(notes)])
	p.m.call(1, []int{api.OpFill, a, 0, 0, 2, 1, 'r', 0, 0, 0}, nil)
	p.m.notes = nil
	p.whole()
}

// A kernel that New answered with nil has nothing, and takes all calls.
func TestNil(t *testing.T) {
	k := kern.New(0, 0, 0, 0)
	if n, out, e := k.Call(0, []int{api.OpRing}, nil); n != 0 || len(out) != 0 || e != api.ErrNone {
		t.Fatal(n, out, e)
	}
	k.Tick()
	_, ok := k.Next(0)
	w, env := k.Owner(0, 0)
	if ok || k.Scan(1) || k.Pump() || k.Serial(0, 1, 0) || len(k.Sent(0, 1)) != 0 || k.Focus() != 0 || k.Trusted() || k.Alive(0) || w != 0 || env != 0 || k.Uses(0, 1) || k.At(0, 0) != (api.Cell{}) || len(k.Notes()) != 0 || len(k.Windows()) != 0 {
		t.Fatal("a kernel of nothing has something")
	}
}

// name is a name that env may hand in: mostly one of its own.
func (p *pair) name(c *rand.Rand, env int) int {
	var own, any []int
	for _, h := range p.m.slots {
		if h != nil {
			any = append(any, h.name)
			if h.env == env {
				own = append(own, h.name)
			}
		}
	}
	switch k := c.IntN(20); {
	case k < 16 && len(own) > 0:
		return own[c.IntN(len(own))]
	case k < 19:
		return any[c.IntN(len(any))]
	}
	return any[c.IntN(len(any))] + []int{-65536, 65536, 1, -1, 256}[c.IntN(5)]
}

// row is words that are mostly right.
func (p *pair) row(c *rand.Rand, env, op int) []int {
	near := func() int { return c.IntN(8) - 1 }
	if c.IntN(60) == 0 {
		near = func() int { return bounds()[c.IntN(len(bounds()))] }
	}
	w := []int{op}
	if about[op] != 0 || op == api.OpDrop || op == api.OpShare || op == api.OpRevoke {
		w = append(w, p.name(c, env))
	}
	if op == api.OpWin || op == api.OpMove {
		w = append(w, c.IntN(p.m.w), c.IntN(p.m.h), 1+c.IntN(4), 1+c.IntN(3))
	}
	if op == api.OpFocus || op == api.OpRelease || op == api.OpKill || op == api.OpShare {
		w = append(w, c.IntN(len(p.m.alive)))
	}
	for op != 0 && op <= len(behind) && len(w)-1 < behind[op-1] {
		w = append(w, near())
	}
	switch c.IntN(100) {
	case 0:
		return w[:c.IntN(len(w))]
	case 1:
		return append(w, 0)
	}
	return w
}

// any does anything.
func (p *pair) any(c *rand.Rand) {
	p.Helper()
	env := c.IntN(len(p.m.alive))
	switch k := c.IntN(100); {
	case k < 62:
		// Kills would soon leave the login alone.
		op := 1 + c.IntN(19)
		switch c.IntN(200) {
		case 0:
			op = api.OpKill
		case 1:
			op = []int{-1, 0, 21}[c.IntN(3)]
		}
		if op == api.OpRelease || op == api.OpKill {
			env = c.IntN(2) * env
		}
		p.call(env, []byte("ab\u4e00c")[:c.IntN(7)], p.row(c, env, max(op, 0))...)
	case k < 70:
		p.scan([]byte{1, 2, 0x60, 0xe0, 0x61, 0xe1, api.Attention, 0xf6, 0x7f, 0x40}[c.IntN(10)])
	case k < 80:
		p.pump()
	case k < 85:
		p.serial(c.IntN(len(p.m.lines)+1), byte(k), c.IntN(8))
	case k < 88:
		p.sent(c.IntN(len(p.m.lines)+1), c.IntN(4))
	case k < 93:
		p.tick()
	default:
		p.next(env)
	}
}

// P16.1 to P16.4: anything, one behind the other.
func TestAny(t *testing.T) {
	c := rand.New(rand.NewPCG(16, 1))
	for range 150 {
		p := pairNew(t, 1+c.IntN(6), 1+c.IntN(4), 1+c.IntN(5), c.IntN(3))
		for range 400 {
			p.any(c)
		}
		p.drain()
	}
}

// P16.4: behind attention, until the release: no one but the login is told keys, and no cell that is seen changes but by its calls, whatever the others do.
func TestAttentionAny(t *testing.T) {
	c := rand.New(rand.NewPCG(16, 2))
	for range 150 {
		p := freed(t, 5, 3, 4, 1)
		for range 100 {
			p.any(c)
		}
		for len(p.m.keys) > 0 {
			p.pump()
		}
		p.keys(api.Attention)
		for env := range p.m.alive {
			for ok := true; ok; {
				_, ok = p.next(env)
			}
		}
		var seen []api.Cell
		for i := range 5 * 3 {
			seen = append(seen, p.k.At(i%5, i/5))
		}
		for range 200 {
			if env := 1 + c.IntN(3); c.IntN(3) > 0 {
				p.call(env, []byte("zz"), p.row(c, env, 1+c.IntN(20))...)
			} else {
				p.keys(byte(c.IntN(256)))
			}
			if !p.k.Trusted() || p.k.Focus() != 0 {
				t.Fatal("the path isn't trusted")
			}
		}
		for env := 1; env < 4; env++ {
			for e, ok := p.next(env); ok; e, ok = p.next(env) {
				if e.Kind != api.EvTimer {
					t.Fatalf("%d is told %v", env, e)
				}
			}
		}
		for i, was := range seen {
			if now := p.k.At(i%5, i/5); now != was {
				t.Fatalf("a cell that is seen changes: %v, %v", was, now)
			}
		}
	}
}

// twins are two kernels to which other keys and other bytes come, of which the environment 1 must know nothing.
type twins struct {
	*testing.T
	a, b *kern.Kernel
}

// call calls both; the environment 1 has one answer.
func (w twins) call(env int, b []byte, words ...int) {
	w.Helper()
	n, out, e := w.a.Call(env, words, b)
	m, tuo, f := w.b.Call(env, words, b)
	if env == 1 && (n != m || !bytes.Equal(out, tuo) || e != f) {
		w.Fatalf("Call(1, %v) has two answers: %d, %q, %v and %d, %q, %v", words, n, out, e, m, tuo, f)
	}
}

// key lets a key come: to the environment 1 the same one.
func (w twins) key(c *rand.Rand) {
	pick := func() byte {
		for {
			k := byte(c.IntN(256))
			if k&0x7f < 0x60 {
				return k
			}
		}
	}
	k, l := pick(), pick()
	if w.a.Focus() == 1 {
		l = k
	}
	if c.IntN(6) == 0 {
		k = []byte{api.Attention, 0x60, 0xe0, 0x61, 0xe1, 0x62, 0xe2}[c.IntN(7)]
		l = k
	}
	w.a.Scan(k)
	w.b.Scan(l)
	w.a.Pump()
	w.b.Pump()
}

// P16.5: what an environment is told and answered doesn't hang on keys that come while it hasn't the focus, nor on bytes of lines of which it has no capability.
func TestApart(t *testing.T) {
	c := rand.New(rand.NewPCG(16, 3))
	for range 100 {
		w := twins{t, kern.New(5, 3, 4, 3), kern.New(5, 3, 4, 3)}
		w.call(0, nil, api.OpShare, itsLine+1, 1, full) // 65536 + 4
		w.call(0, nil, api.OpRelease, 1)
		for range 400 {
			env := c.IntN(4)
			switch k := c.IntN(30); {
			case k < 8:
				w.key(c)
			case k < 12:
				b := byte(c.IntN(256))
				w.a.Serial(1, b, k)
				w.b.Serial(1, b, k)
			case k < 16:
				w.a.Serial(k%2*2, byte(c.IntN(256)), c.IntN(8))
				w.b.Serial(k%2*2, byte(c.IntN(256)), c.IntN(8))
			case k < 18:
				w.call(0, []byte("s"), []int{api.OpRead, api.OpSend}[k%2], itsLine+c.IntN(3))
			case k < 20:
				w.call(1, []byte("s"), []int{api.OpRead, api.OpSend}[k%2], 65536+4-c.IntN(2)*c.IntN(5))
			case k < 21:
				w.a.Tick()
				w.b.Tick()
			case k < 22:
				w.call(0, nil, api.OpRelease, env)
			case k < 23:
				w.call(env, nil, api.OpFocus, c.IntN(4))
			case k < 24:
				w.call(env, nil, api.OpTimer, c.IntN(3), 1+c.IntN(3))
			case k < 25:
				w.call(env, nil, api.OpWin, c.IntN(5), c.IntN(3), 1+c.IntN(3), 1+c.IntN(2))
			case k < 29:
				name := 65536*(1+c.IntN(2)) + c.IntN(20)
				w.call(env, []byte("hey"), [][]int{{api.OpTop, name}, {api.OpText, name, 0, 0, 1, 1, 1}, {api.OpFill, name, 0, 0, 3, 2, 'f', 0, 0, 0}, {api.OpDrop, name}}[k-25]...)
			}
			if w.a.Focus() != w.b.Focus() || w.a.Trusted() != w.b.Trusted() {
				t.Fatal("the focus")
			}
			if c.IntN(2) == 0 {
				e, ok := w.a.Next(1)
				if f, ko := w.b.Next(1); e != f || ok != ko {
					t.Fatalf("1 is told %v, %v and %v, %v", e, ok, f, ko)
				}
			}
		}
	}
}

// R6: the same calls have the same answers.
func TestOneAnswer(t *testing.T) {
	for seed := range uint64(10) {
		var told [2][]any
		for i := range told {
			c := rand.New(rand.NewPCG(16, 100+seed))
			p := pairNew(t, 5, 3, 4, 2)
			other := kern.New(5, 3, 4, 2)
			for range 300 {
				env := c.IntN(4)
				n, out, e := p.call(env, []byte("one"), p.row(c, env, 1+c.IntN(19))...)
				told[i] = append(told[i], n, string(out), e)
				p.keys(byte(c.IntN(128)))
				if i == 1 {
					other.Scan(1)
					other.Call(0, []int{api.OpRing}, nil)
				}
			}
			for env := range 4 {
				for e, ok := p.next(env); ok; e, ok = p.next(env) {
					told[i] = append(told[i], e)
				}
			}
		}
		if !slices.Equal(told[0], told[1]) {
			t.Fatal("two answers")
		}
	}
}

// P1, R1: every call ends and none panics, at any argument.
func FuzzAll(f *testing.F) {
	f.Add(0, 19, 1, 1, 1, []byte{3, 1, 4, 2, 9, 200}, []byte("text"))
	f.Add(1, 1, 0, 2, 2, []byte{0, 0, 1, 1, 8, 8, 8}, []byte{0xff, 0xe2})
	f.Add(-1, math.MinInt, math.MaxInt, api.Far+1, -api.Far, []byte{40, 41, 42, 118, 246}, []byte{})
	f.Fuzz(func(t *testing.T, env, x, y, z, v int, do, b []byte) {
		p := pairNew(t, 4, 3, 3, 1)
		p.ok(1, api.OpWin, 0, 0, 3, 2)
		p.ok(1, api.OpRing)
		p.call(env, b, x, y, z, v)
		l := []int{x, y, z, v, env, 0, 1, 2, itsWindow, itsLine, 65538, 65539, len(do), len(b)}
		for i, d := range do[:min(len(do), 60)] {
			switch d % 16 {
			case 0:
				p.keys(d, byte(i))
			case 1:
				p.keys(api.Attention)
			case 2:
				p.serial(x%3, d, y)
			case 3:
				p.sent(y%3, z)
			case 4:
				p.tick()
			case 5:
				p.next(i % 3)
				p.next(env)
			case 6:
				p.call(0, b, api.OpRelease, i%3)
			default:
				op := 1 + int(d)%20
				w := []int{op}
				for k := range behind[op-1] {
					w = append(w, l[(int(d)/16+i*7+k*5)%len(l)])
				}
				if about[op] != 0 {
					w[1] = l[8+i%4]
				}
				p.call(i%3, b, w...)
			}
		}
		p.drain()
	})
}

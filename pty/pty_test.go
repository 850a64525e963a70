package pty_test

import (
	"math"
	"math/rand/v2"
	"slices"
	"strings"
	"testing"

	"betony/api"
	"betony/ldisc"
	"betony/opost"
	"betony/pty"
	"betony/termios"
)

// What the chapter says the bounds are.
const (
	room = 4096 // bytes that go out
	side = 512  // columns, or rows
)

// The flags of settings, by their numbers in the document.
const (
	icrnl, ixon, ixany, imaxbel                       = 4, 16, 32, 64
	post, nlcr, crnl, nocr, nlret, blanks             = 1, 2, 4, 8, 16, 32
	icanon, echo, echoe, echoctl, isig, noflsh, iexts = 1, 2, 4, 32, 64, 128, 512
)

// The places of special characters, by their numbers in the document.
const (
	vstart = 10
	vstop  = 11
	places = 12
)

// The errors, by their numbers in the document.
const (
	errArg    = api.Errno(1)
	errRange  = api.Errno(2)
	errAgain  = api.Errno(12)
	errIO     = api.Errno(13)
	errClosed = api.Errno(16)
)

// words is a pair by the words of the chapter; what layers 18 and 19 tell is asked of them.
type words struct {
	d                        *ldisc.Disc
	col                      int
	out                      []byte
	w, h                     int
	masterClosed             bool
	slaveClosed              bool
	packets                  bool
	gone, stopped, goesAgain bool // the flags 01, 04 and 08 wait
}

// begin is a new pair by the words.
func begin(t api.Termios) words { return words{d: ldisc.New(t), w: 80, h: 24} }

// written is what c becomes, and the column behind it.
func (m *words) written(c byte) (string, int) {
	b, next := opost.Byte(m.d.Setting().Out, m.col, c)
	return string(b), next
}

// goes tells whether c had room.
func (m *words) goes(c byte) bool {
	b, next := m.written(c)
	if len(m.out)+len(b) > room {
		return false
	}
	m.out = append(m.out, b...)
	m.col = next
	return true
}

// MasterWrite by the words.
func (m *words) MasterWrite(b string) (int, []int, api.Errno) {
	if m.masterClosed {
		return 0, nil, errClosed
	}
	if m.slaveClosed {
		return 0, nil, errIO
	}
	var sigs []int
	for i := range len(b) {
		before := m.d.Stopped()
		shown, sig := m.d.Input(b[i])
		for _, c := range shown {
			m.goes(c)
		}
		if sig != 0 {
			sigs = append(sigs, sig)
		}
		if m.packets {
			m.gone = m.gone || sig != 0 && m.d.Setting().Local/noflsh%2 == 0
			m.stopped = m.stopped || !before && m.d.Stopped()
			m.goesAgain = m.goesAgain || before && !m.d.Stopped()
		}
	}
	return len(b), sigs, 0
}

// flags is the sum of the flags that wait.
func (m *words) flags() int {
	sum := 0
	if m.gone {
		sum++
	}
	if m.stopped {
		sum += 4
	}
	if m.goesAgain {
		sum += 8
	}
	return sum
}

// MasterRead by the words.
func (m *words) MasterRead(n int) (string, api.Errno) {
	nothing := len(m.out) == 0 && m.flags() == 0
	switch {
	case m.masterClosed:
		return "", errClosed
	case n < 1:
		return "", errArg
	case nothing && m.slaveClosed:
		return "", errIO
	case nothing:
		return "", errAgain
	}
	if sum := m.flags(); sum > 0 {
		m.gone, m.stopped, m.goesAgain = false, false, false
		return string([]byte{byte(sum)}), 0
	}
	ahead := ""
	if m.packets {
		ahead = "\x00"
		if n > 1 {
			n--
		}
	}
	if n > len(m.out) {
		n = len(m.out)
	}
	first := string(m.out[:n])
	m.out = m.out[n:]
	return ahead + first, 0
}

// SlaveWrite by the words.
func (m *words) SlaveWrite(b string) (int, api.Errno) {
	if m.slaveClosed {
		return 0, errClosed
	}
	if m.masterClosed {
		return 0, errIO
	}
	for i := range len(b) {
		if !m.d.Stopped() && m.goes(b[i]) {
			continue
		}
		if i == 0 {
			return 0, errAgain
		}
		return i, 0
	}
	return len(b), 0
}

// SlaveRead by the words.
func (m *words) SlaveRead(n int) (string, api.Errno) {
	if m.slaveClosed {
		return "", errClosed
	}
	if n < 1 {
		return "", errArg
	}
	b, end := m.d.Read(n)
	if len(b) == 0 && !end && !m.masterClosed {
		return "", errAgain
	}
	return string(b), 0
}

// right tells whether t is right.
func right(t api.Termios) bool {
	for _, c := range t.Cc {
		if c < 0 || c > 255 {
			return false
		}
	}
	return t.In >= 0 && t.In <= 127 && t.Out >= 0 && t.Out <= 63 && t.Local >= 0 && t.Local <= 1023 && t.Min >= 0 && t.Min <= 255 && t.Time >= 0 && t.Time <= 255
}

// Set by the words.
func (m *words) Set(t api.Termios) api.Errno {
	if !right(t) {
		return errArg
	}
	m.d.Set(t)
	return 0
}

// Resize by the words.
func (m *words) Resize(w, h int) (bool, api.Errno) {
	if w < 1 || w > side || h < 1 || h > side {
		return false, errRange
	}
	same := m.w == w && m.h == h
	m.w, m.h = w, h
	return !same, 0
}

// Packets by the words.
func (m *words) Packets(on bool) {
	m.packets, m.gone, m.stopped, m.goesAgain = on, false, false, false
}

// Flush by the words.
func (m *words) Flush() {
	m.d.Flush()
	m.gone = m.gone || m.packets
}

// both is a pair beside the words.
type both struct {
	*testing.T
	p *pty.Pair
	m words
}

// start begins both with the setting s.
func start(t *testing.T, s api.Termios) *both {
	t.Helper()
	p := pty.New(s)
	if p == nil {
		t.Fatalf("New(%v) = nil", s)
	}
	b := &both{t, p, begin(s)}
	b.state()
	return b
}

// state holds what can be asked against the words.
func (b *both) state() {
	b.Helper()
	if got, want := b.p.Get(), b.m.d.Setting(); got != want {
		b.Fatalf("Get = %v, want %v", got, want)
	}
	if w, h := b.p.Size(); w != b.m.w || h != b.m.h {
		b.Fatalf("Size = %d, %d, want %d, %d", w, h, b.m.w, b.m.h)
	}
	if in, out := b.p.Waits(); in != b.m.d.Ready() || out != len(b.m.out) {
		b.Fatalf("Waits = %d, %d, want %d, %d", in, out, b.m.d.Ready(), len(b.m.out))
	}
}

// in lets the master write text, to both.
func (b *both) in(text string) {
	b.Helper()
	n, sigs, e := b.p.MasterWrite([]byte(text))
	wantN, wantSigs, want := b.m.MasterWrite(text)
	if n != wantN || !slices.Equal(sigs, wantSigs) || e != want {
		b.Fatalf("MasterWrite(%q) = %d, %v, %v, want %d, %v, %v", text, n, sigs, e, wantN, wantSigs, want)
	}
	b.state()
}

// seen lets the master read n bytes, of both.
func (b *both) seen(n int) {
	b.Helper()
	got, e := b.p.MasterRead(n)
	if text, want := b.m.MasterRead(n); string(got) != text || e != want {
		b.Fatalf("MasterRead(%d) = %q, %v, want %q, %v", n, got, e, text, want)
	}
	b.state()
}

// out lets the slave write text, to both.
func (b *both) out(text string) {
	b.Helper()
	n, e := b.p.SlaveWrite([]byte(text))
	if many, want := b.m.SlaveWrite(text); n != many || e != want {
		b.Fatalf("SlaveWrite(%q) = %d, %v, want %d, %v", text, n, e, many, want)
	}
	b.state()
}

// read lets the slave read n bytes, of both.
func (b *both) read(n int) {
	b.Helper()
	got, e := b.p.SlaveRead(n)
	if text, want := b.m.SlaveRead(n); string(got) != text || e != want {
		b.Fatalf("SlaveRead(%d) = %q, %v, want %q, %v", n, got, e, text, want)
	}
	b.state()
}

// set sets both.
func (b *both) set(s api.Termios) {
	b.Helper()
	if e, want := b.p.Set(s), b.m.Set(s); e != want {
		b.Fatalf("Set(%v) = %v, want %v", s, e, want)
	}
	b.state()
}

// resize gives both a size.
func (b *both) resize(w, h int) {
	b.Helper()
	other, e := b.p.Resize(w, h)
	if is, want := b.m.Resize(w, h); other != is || e != want {
		b.Fatalf("Resize(%d, %d) = %v, %v, want %v, %v", w, h, other, e, is, want)
	}
	b.state()
}

// packet lets both have packets, or not.
func (b *both) packet(on bool) {
	b.Helper()
	b.p.Packets(on)
	b.m.Packets(on)
	b.state()
}

// flush flushes both.
func (b *both) flush() {
	b.Helper()
	b.p.Flush()
	b.m.Flush()
	b.state()
}

// shutMaster closes the master's end of both.
func (b *both) shutMaster() {
	b.Helper()
	if was := b.p.CloseMaster(); was == b.m.masterClosed {
		b.Fatalf("CloseMaster = %v", was)
	}
	b.m.masterClosed = true
	b.state()
}

// shutSlave closes the slave's end of both.
func (b *both) shutSlave() {
	b.Helper()
	if was := b.p.CloseSlave(); was == b.m.slaveClosed {
		b.Fatalf("CloseSlave = %v", was)
	}
	b.m.slaveClosed = true
	b.state()
}

// drain reads all that there is at both ends of both.
func (b *both) drain() {
	b.Helper()
	for range 3 {
		b.seen(2 * room)
	}
	for in := -1; in != b.m.d.Ready(); {
		in = b.m.d.Ready()
		b.read(2 * room)
	}
	for range 3 {
		b.read(2 * room)
	}
}

// with is the plain setting with other flags.
func with(in, out, local int) api.Termios {
	s := termios.Plain()
	s.In, s.Out, s.Local = in, out, local
	return s
}

// made is a pair of the setting s, and says what is wrong.
func made(t *testing.T, s api.Termios) *pty.Pair {
	t.Helper()
	p := pty.New(s)
	if p == nil {
		t.Fatalf("New(%v) = nil", s)
	}
	return p
}

// want holds what was answered against what is wanted.
func want[T comparable](t *testing.T, what string, got, wanted T) {
	t.Helper()
	if got != wanted {
		t.Errorf("%s: %v, want %v", what, got, wanted)
	}
}

// wantRead holds bytes and an error against what is wanted.
func wantRead(t *testing.T, what string, b []byte, e api.Errno, text string, wanted api.Errno) {
	t.Helper()
	if string(b) != text || e != wanted {
		t.Errorf("%s: %d bytes, %q, %v, want %d, %q, %v", what, len(b), end(string(b)), e, len(text), end(text), wanted)
	}
}

// end is the end of a long text.
func end(text string) string { return text[max(0, len(text)-40):] }

// wantOut holds all that goes out against text; it goes by that.
func wantOut(t *testing.T, what string, p *pty.Pair, text string) {
	t.Helper()
	b, e := p.MasterRead(2 * room)
	if text == "" {
		wantRead(t, what, b, e, "", errAgain)
		return
	}
	wantRead(t, what, b, e, text, 0)
}

// wantSent lets the slave write text, and holds what is answered against what is wanted.
func wantSent(t *testing.T, what string, p *pty.Pair, text string, n int, wanted api.Errno) {
	t.Helper()
	got, e := p.SlaveWrite([]byte(text))
	want(t, what, got, n)
	want(t, what, e, wanted)
}

// wantIn lets the master write text; it makes these signals.
func wantIn(t *testing.T, what string, p *pty.Pair, text string, sigs ...int) {
	t.Helper()
	n, got, e := p.MasterWrite([]byte(text))
	if n != len(text) || e != 0 || !slices.Equal(got, sigs) {
		t.Errorf("%s: %d, %v, %v, want %d, %v", what, n, got, e, len(text), sigs)
	}
}

// bounds are numbers at all bounds, on either side.
func bounds() []int {
	return []int{math.MinInt, math.MinInt + 1, -1 << 32, -1 << 31, -room, -side, -2, -1, 0, 1, 2, 3, 23, 24, 25, 79, 80, 81, 255, 256, side - 1, side, side + 1, 1023, 1024, 1025, room - 1, room, room + 1, 1<<31 - 1, 1 << 31, 1<<32 + 1, 1<<32 + 80, math.MaxInt - 1, math.MaxInt}
}

// The chapter's example.
func TestExample(t *testing.T) {
	p := made(t, termios.Plain())
	wantIn(t, "MasterWrite", p, "hi\x0d")
	b, e := p.MasterRead(99)
	wantRead(t, "MasterRead", b, e, "hi\x0d\x0a", 0)
	b, e = p.SlaveRead(99)
	wantRead(t, "SlaveRead", b, e, "hi\x0a", 0)
}

// The errors have the numbers that the tests say.
func TestNumbers(t *testing.T) {
	want(t, "OK", api.OK, 0)
	want(t, "ErrArg", api.ErrArg, errArg)
	want(t, "ErrRange", api.ErrRange, errRange)
	want(t, "ErrAgain", api.ErrAgain, errAgain)
	want(t, "ErrIO", api.ErrIO, errIO)
	want(t, "ErrClosed", api.ErrClosed, errClosed)
}

// parts are the numbers of a setting.
func parts() []func(s *api.Termios) *int {
	l := []func(s *api.Termios) *int{func(s *api.Termios) *int { return &s.In }, func(s *api.Termios) *int { return &s.Out }, func(s *api.Termios) *int { return &s.Local }, func(s *api.Termios) *int { return &s.Min }, func(s *api.Termios) *int { return &s.Time }}
	for i := range places {
		l = append(l, func(s *api.Termios) *int { return &s.Cc[i] })
	}
	return l
}

// P22.1, P22.3: New and Set of any settings; of those that aren't right: nil, and ErrArg, and nothing is changed.
func TestSettings(t *testing.T) {
	b := start(t, termios.Plain())
	b.in("ab\rc\x13")
	for i, at := range parts() {
		for _, n := range append(bounds(), 62, 63, 64, 127, 128) {
			s := termios.Raw(termios.Plain())
			*at(&s) = n
			p := pty.New(s)
			if (p != nil) != right(s) {
				t.Fatalf("part %d is %d: there is one: %v", i, n, p != nil)
			}
			if p != nil {
				want(t, "Get", p.Get(), s)
				w, h := p.Size()
				want(t, "columns", w, 80)
				want(t, "rows", h, 24)
				in, out := p.Waits()
				want(t, "ready", in, 0)
				want(t, "out", out, 0)
				continue
			}
			b.set(s)
		}
	}
	b.in("d\r")
	b.drain()
	c := rand.New(rand.NewPCG(22, 1))
	for range 3000 {
		b.set(anySetting(c))
	}
}

// P22.1: MasterWrite takes all, whatever is lost of it, and tells the signals in their order.
func TestMasterWrite(t *testing.T) {
	p := made(t, termios.Plain())
	wantIn(t, "nothing", p, "")
	wantIn(t, "letters", p, "abc")
	wantIn(t, "a signal", p, "\x03", api.SigInt)
	wantIn(t, "signals", p, "a\x1cb\x03\x03\x1ac\x1c", api.SigQuit, api.SigInt, api.SigInt, api.SigTstp, api.SigQuit)
	wantIn(t, "what is lost", p, xs(5000))
	wantIn(t, "signals behind what is lost", p, xs(500)+"\x1a\x03", api.SigTstp, api.SigInt)
	n, sigs, e := p.MasterWrite(nil)
	if n != 0 || sigs != nil || e != 0 {
		t.Errorf("MasterWrite(nil) = %d, %v, %v", n, sigs, e)
	}
	p = made(t, with(icrnl, post, icanon|echo))
	wantIn(t, "without Isig", p, "\x03\x1c\x1a")
	wantIn(t, "a line", p, "\r")
	b, e := p.SlaveRead(9)
	wantRead(t, "the line", b, e, "\x03\x1c\x1a\n", 0)
}

// closedRow is what a pair answers of which ends are closed.
type closedRow struct {
	master, slave           bool      // closed
	masterWrite, slaveWrite api.Errno // of any text
	masterWrong, slaveWrong api.Errno // of a read of no bytes
	masterRead, slaveRead   api.Errno // of the first read
	seen, read              string    // with it
	masterLeft, slaveLeft   api.Errno // of the next reads
}

// check holds a pair against the row: a line was read ahead of the closing, and another one not.
func (r closedRow) check(t *testing.T) {
	t.Helper()
	p := made(t, termios.Plain())
	wantIn(t, "MasterWrite", p, "a\rb")
	if r.master {
		want(t, "CloseMaster", p.CloseMaster(), true)
	}
	if r.slave {
		want(t, "CloseSlave", p.CloseSlave(), true)
	}
	for _, text := range []string{"", "\x03"} {
		if text != "" && r.masterWrite == 0 { // so that what is to be read is the same in each row
			continue
		}
		n, sigs, e := p.MasterWrite([]byte(text))
		if n != 0 || sigs != nil || e != r.masterWrite {
			t.Errorf("%v: MasterWrite(%q) = %d, %v, %v", r, text, n, sigs, e)
		}
	}
	for _, text := range []string{"", "z"} {
		n, e := p.SlaveWrite([]byte(text))
		if e != r.slaveWrite || e == 0 && n != len(text) || e != 0 && n != 0 {
			t.Errorf("%v: SlaveWrite(%q) = %d, %v", r, text, n, e)
		}
	}
	wrong := func() {
		t.Helper()
		for _, n := range []int{math.MinInt, -1, 0} {
			b, e := p.MasterRead(n)
			wantRead(t, "MasterRead of no bytes", b, e, "", r.masterWrong)
			b, e = p.SlaveRead(n)
			wantRead(t, "SlaveRead of no bytes", b, e, "", r.slaveWrong)
		}
	}
	wrong()
	b, e := p.MasterRead(99)
	wantRead(t, "MasterRead", b, e, r.seen, r.masterRead)
	b, e = p.SlaveRead(99)
	wantRead(t, "SlaveRead", b, e, r.read, r.slaveRead)
	for range 2 {
		b, e = p.MasterRead(99)
		wantRead(t, "MasterRead once more", b, e, "", r.masterLeft)
		b, e = p.SlaveRead(99)
		wantRead(t, "SlaveRead once more", b, e, "", r.slaveLeft)
	}
	wrong()
}

// P22.1, P22.2: what a pair answers of which ends are closed, each error ahead of the next one.
func TestClosed(t *testing.T) {
	for _, r := range []closedRow{
		{false, false, 0, 0, errArg, errArg, 0, 0, "a\r\nbz", "a\n", errAgain, errAgain},
		{true, false, errClosed, errIO, errClosed, errArg, errClosed, 0, "", "a\n", errClosed, 0},
		{false, true, errIO, errClosed, errArg, errClosed, 0, errClosed, "a\r\nb", "", errIO, errClosed},
		{true, true, errClosed, errClosed, errClosed, errClosed, errClosed, errClosed, "", "", errClosed, errClosed},
	} {
		r.check(t)
	}
}

// P22.1: no signal comes of a write that is refused, and no packet.
func TestRefused(t *testing.T) {
	for _, master := range []bool{false, true} {
		b := start(t, termios.Plain())
		b.packet(true)
		b.in("a\r")
		b.seen(99)
		if master {
			b.shutMaster()
		} else {
			b.shutSlave()
		}
		b.in("\x03\x13b\r")
		b.out("c")
		b.drain()
	}
}

// P22.3: an end is closed once; each by itself.
func TestClose(t *testing.T) {
	p := made(t, termios.Plain())
	want(t, "CloseMaster", p.CloseMaster(), true)
	want(t, "CloseMaster", p.CloseMaster(), false)
	want(t, "CloseSlave", p.CloseSlave(), true)
	want(t, "CloseSlave", p.CloseSlave(), false)
	want(t, "CloseMaster", p.CloseMaster(), false)
	p = made(t, termios.Plain())
	want(t, "CloseSlave", p.CloseSlave(), true)
	want(t, "CloseSlave", p.CloseSlave(), false)
	want(t, "CloseMaster", p.CloseMaster(), true)
	want(t, "CloseMaster", p.CloseMaster(), false)
}

// P22.3: what isn't a read or a write does the same when the ends are closed.
func TestClosedRest(t *testing.T) {
	for k := range 4 {
		b := start(t, termios.Plain())
		b.in("ab\rc")
		if k&1 != 0 {
			b.shutMaster()
		}
		if k&2 != 0 {
			b.shutSlave()
		}
		b.resize(7, 9)
		b.resize(7, 9)
		b.resize(0, 9)
		b.set(termios.Raw(termios.Plain()))
		b.set(api.Termios{Min: -1})
		b.packet(true)
		b.flush()
		b.drain()
	}
}

// xs are n letters.
func xs(n int) string { return strings.Repeat("x", n) }

// filled is a pair of the setting s, of which text goes out.
func filled(t *testing.T, s api.Termios, text string) *pty.Pair {
	t.Helper()
	p := made(t, s)
	if n, e := p.SlaveWrite([]byte(text)); n != len(text) || e != 0 {
		t.Fatalf("SlaveWrite = %d, %v, want %d", n, e, len(text))
	}
	return p
}

// P22.1: SlaveWrite takes the first bytes, as long as all that one becomes has room.
func TestSlaveWrite(t *testing.T) {
	plain := termios.Plain()
	tabs, none := with(icrnl, post|blanks, icanon), with(icrnl, post|nocr, icanon)
	for _, x := range []struct {
		name string
		set  api.Termios
		out  string // that goes out
		text string
		n    int
		e    api.Errno
		goes string
	}{
		{"nothing", plain, "", "", 0, 0, ""},
		{"a line", plain, "", "ab\n", 3, 0, "ab\r\n"},
		{"any bytes", plain, "", "\x00\x1b\x7f\xff\x03\x13", 6, 0, "\x00\x1b\x7f\xff\x03\x13"},
		{"the last byte", plain, xs(room - 1), "a", 1, 0, "a"},
		{"one too many", plain, xs(room - 1), "ab", 1, 0, "a"},
		{"none", plain, xs(room), "a", 0, errAgain, ""},
		{"nothing of nothing", plain, xs(room), "", 0, 0, ""},
		{"two bytes of one", plain, xs(room - 2), "\n", 1, 0, "\r\n"},
		{"no half", plain, xs(room - 1), "\n", 0, errAgain, ""},
		{"no half, and nothing behind it", plain, xs(room - 2), "a\nb", 1, 0, "a"},
		{"nothing behind what has no room", plain, xs(room - 1), "\na", 0, errAgain, ""},
		{"one becomes one", with(icrnl, 0, icanon), xs(room - 1), "\n", 1, 0, "\n"},
		{"Ocrnl", with(icrnl, post|nlcr|crnl, icanon), xs(room - 1), "\r", 0, errAgain, ""},
		{"eight blanks", tabs, xs(room - 8), "\t", 1, 0, "        "},
		{"seven blanks", tabs, xs(room - 8), "a\t", 2, 0, "a       "},
		{"seven places for eight", tabs, "\b" + xs(room-8), "\t", 0, errAgain, ""},
		{"one blank", tabs, "\b" + xs(room-9), "\t", 1, 0, " "},
		{"at another column", tabs, "\b" + xs(room-9), "a\t", 1, 0, "a"},
		{"a tab that stays", with(icrnl, post, icanon), xs(room - 1), "\t", 1, 0, "\t"},
		{"what becomes nothing", none, "", "\r\r\r", 3, 0, ""},
		{"what becomes nothing has room", none, xs(room - 1), "\r\r\r", 3, 0, "\r"},
		{"and nothing else", none, xs(room - 1), "\r\r\ra", 3, 0, "\r"},
	} {
		p := filled(t, x.set, x.out)
		wantSent(t, x.name, p, x.text, x.n, x.e)
		wantOut(t, x.name, p, x.out+x.goes)
	}
	p := made(t, plain)
	wantSent(t, "all", p, strings.Repeat("a", room), room, 0)
	wantSent(t, "more", p, "a", 0, errAgain)
	b, e := p.MasterRead(3)
	wantRead(t, "MasterRead", b, e, "aaa", 0)
	wantSent(t, "as many as were read", p, "\nbcd", 2, 0)
	wantSent(t, "no more", p, "\n", 0, errAgain)
	wantOut(t, "the rest", p, strings.Repeat("a", room-3)+"\r\nb")
	wantSent(t, "once more", p, strings.Repeat("c", room+9), room, 0)
	p = made(t, plain)
	wantSent(t, "lines", p, strings.Repeat("\n", room), room/2, 0)
	n, e := p.SlaveWrite(nil)
	want(t, "of nil", n, 0)
	want(t, "of nil", e, 0)
	p = made(t, none)
	wantSent(t, "what becomes nothing", p, strings.Repeat("\r", 3*room), 3*room, 0)
}

// P22.1: nothing is taken while the output is stopped; what goes out is read, and shown bytes go out all the same.
func TestStopped(t *testing.T) {
	p := made(t, termios.Plain())
	wantSent(t, "before", p, "ab", 2, 0)
	wantIn(t, "Vstop", p, "\x13")
	wantSent(t, "stopped", p, "c", 0, errAgain)
	wantSent(t, "stopped, of nothing", p, "", 0, 0)
	wantIn(t, "while it is stopped", p, "d")
	b, e := p.MasterRead(9)
	wantRead(t, "MasterRead", b, e, "abd", 0)
	wantOut(t, "nothing more", p, "")
	wantIn(t, "Vstart", p, "\x11")
	wantSent(t, "behind it", p, "c", 1, 0)
	wantIn(t, "stopped, and a signal", p, "\x13\x03", api.SigInt)
	wantSent(t, "behind a signal", p, "e", 1, 0)
	wantOut(t, "all", p, "c^Ce")
	p = made(t, with(icrnl, post, icanon))
	wantIn(t, "without Ixon", p, "\x13")
	wantSent(t, "without Ixon", p, "c", 1, 0)
	p = made(t, with(ixon, post|nocr, 0))
	wantIn(t, "Vstop", p, "\x13")
	wantSent(t, "what becomes nothing", p, "\r", 0, errAgain)
}

// P22.1: what is shown goes out as if it was written; what has no room is lost, each byte as a whole.
func TestShown(t *testing.T) {
	plain := termios.Plain()
	few := with(icrnl|imaxbel, post|nlcr, icanon|echo|echoe|echoctl|iexts)
	tabs := with(icrnl, post|blanks, icanon|echo)
	for _, x := range []struct {
		name string
		set  api.Termios
		out  string // that goes out
		in   string
		goes string
	}{
		{"a line", plain, "", "ab\r", "ab\r\n"},
		{"a line without Onlcr", with(icrnl, post, icanon|echo), "", "ab\r", "ab\n"},
		{"a line without Opost", with(icrnl, nlcr, icanon|echo), "", "ab\r", "ab\n"},
		{"without Echo", with(icrnl, post, icanon), "", "ab\r", ""},
		{"a tab", tabs, "xxx", "\ta\t", "     a       "},
		{"the last place", plain, xs(room - 1), "a", "a"},
		{"no place", plain, xs(room), "abc\r", ""},
		{"one of two", plain, xs(room - 1), "ab", "a"},
		{"no half of a line's end", plain, xs(room - 1), "\r", ""},
		{"and what has room behind it", plain, xs(room - 1), "\ra", "a"},
		{"all of a line's end", plain, xs(room - 2), "\ra", "\r\n"},
		{"one byte of a picture", few, xs(room - 1), "\x01", "^"},
		{"both of a picture", few, xs(room - 2), "\x01", "^A"},
		{"what is wiped", few, xs(room - 2), "a\x7f", "a\b"},
		{"what is wiped has room", few, xs(room - 4), "a\x7f", "a\b \b"},
		{"no place for a tab", tabs, "\b" + xs(room-2), "\t", ""},
		{"what has room behind a tab", tabs, "\b" + xs(room-4), "\tab", "ab"},
		{"a signal", plain, xs(room - 1), "\x03", "^"},
		{"Vreprint", few, xs(room - 3), "a\x12b", "a^R"},
		{"behind what is lost of Vreprint", few, xs(room - 4), "a\x12b", "a^Ra"},
	} {
		p := filled(t, x.set, x.out)
		p.MasterWrite([]byte(x.in))
		wantOut(t, x.name, p, x.out+x.goes)
	}
	p := filled(t, plain, xs(room))
	wantIn(t, "what isn't shown", p, "abc\r")
	b, e := p.SlaveRead(9)
	wantRead(t, "is read all the same", b, e, "abc\n", 0)
}

// P22.1: the column is one of all that goes out, shown or written; what is lost doesn't move it.
func TestColumn(t *testing.T) {
	s := with(icrnl, post|nlcr|blanks, icanon|echo)
	p := made(t, s)
	wantSent(t, "written", p, "ab", 2, 0)
	wantIn(t, "shown", p, "cd")
	wantSent(t, "a tab", p, "\t", 1, 0)
	wantIn(t, "a tab", p, "e\t")
	wantIn(t, "a line", p, "\r")
	wantSent(t, "a tab", p, "f\t", 2, 0)
	wantOut(t, "the column", p, "abcd    e       \r\nf       ")
	wantSent(t, "behind what was read", p, "g\t", 2, 0)
	wantOut(t, "the column", p, "g       ")
	p = filled(t, s, xs(room-1)) // the column is 7 of 8
	wantIn(t, "a line that is lost", p, "\r")
	wantSent(t, "a line that isn't taken", p, "\n", 0, errAgain)
	wantSent(t, "the last place", p, "\t", 1, 0)
	wantOut(t, "the column", p, xs(room-1)+" ")
	p = filled(t, s, xs(room)) // the column is 0 of 8
	wantIn(t, "letters that are lost", p, "abc")
	wantSent(t, "a letter that isn't taken", p, "a", 0, errAgain)
	b, e := p.MasterRead(room)
	wantRead(t, "MasterRead", b, e, xs(room), 0)
	wantSent(t, "a tab", p, "\t", 1, 0)
	wantOut(t, "the column", p, "        ")
	p = made(t, with(icrnl, post|nocr, icanon|echo))
	wantSent(t, "at column 0", p, "\ra\r\r", 4, 0)
	wantOut(t, "at column 0", p, "a\r")
	p = made(t, with(icrnl, post, icanon|echo))
	wantSent(t, "a line's end without Onlcr", p, "abc\n", 4, 0)
	want(t, "Set", p.Set(s), 0)
	wantSent(t, "the column stays with Set", p, "\t", 1, 0)
	wantOut(t, "the column", p, "abc\n     ")
	p = made(t, with(icrnl, post|nlret, icanon|echo))
	wantSent(t, "Onlret", p, "abc\n", 4, 0)
	want(t, "Set", p.Set(s), 0)
	wantSent(t, "a tab", p, "\t", 1, 0)
	wantOut(t, "the column", p, "abc\n        ")
	p = made(t, with(icrnl, 0, icanon|echo))
	wantSent(t, "without Opost", p, "abc", 3, 0)
	want(t, "Set", p.Set(s), 0)
	p.Flush()
	p.Packets(true)
	p.Packets(false)
	p.Resize(1, 1)
	wantSent(t, "a tab", p, "\t", 1, 0)
	wantOut(t, "the column", p, "abc     ")
}

// P22.2: MasterRead answers the first n bytes, of any n.
func TestMasterRead(t *testing.T) {
	b := start(t, termios.Plain())
	for _, n := range bounds() {
		b.seen(n)
	}
	for _, n := range bounds() {
		b.out("abc\n")
		b.seen(n)
		b.in("de")
		b.seen(n)
	}
	b.drain()
	for _, n := range bounds() {
		b.out(strings.Repeat("abcdefg", 600))
		b.seen(n)
		b.seen(2)
	}
	b.shutSlave()
	for _, n := range bounds() {
		b.seen(n)
	}
	b.seen(room)
	for _, n := range bounds() {
		b.seen(n)
	}
	p := made(t, termios.Plain())
	wantSent(t, "SlaveWrite", p, "abcdefg", 7, 0)
	for _, x := range []struct {
		n    int
		want string
		e    api.Errno
	}{{1, "a", 0}, {0, "", errArg}, {2, "bc", 0}, {-1, "", errArg}, {3, "def", 0}, {math.MinInt, "", errArg}, {math.MaxInt, "g", 0}, {1, "", errAgain}, {0, "", errArg}} {
		got, e := p.MasterRead(x.n)
		wantRead(t, "MasterRead", got, e, x.want, x.e)
	}
}

// P22.2: with packets there is a 00 ahead of the bytes, which has its place among the n, but of n 1.
func TestPacketRead(t *testing.T) {
	p := made(t, termios.Plain())
	p.Packets(true)
	wantOut(t, "nothing", p, "")
	wantSent(t, "SlaveWrite", p, "abcdefghijk", 11, 0)
	for _, x := range []struct {
		n    int
		want string
		e    api.Errno
	}{{1, "\x00a", 0}, {0, "", errArg}, {2, "\x00b", 0}, {3, "\x00cd", 0}, {-1, "", errArg}, {math.MinInt, "", errArg}, {1, "\x00e", 0}, {4, "\x00fgh", 0}, {5, "\x00ijk", 0}, {5, "", errAgain}, {1, "", errAgain}, {0, "", errArg}} {
		got, e := p.MasterRead(x.n)
		wantRead(t, "MasterRead", got, e, x.want, x.e)
	}
	for _, n := range []int{room - 1, room, room + 1, room + 2, math.MaxInt} {
		b := start(t, termios.Plain())
		b.packet(true)
		b.out(strings.Repeat("abcdefg", 600))
		b.seen(n)
		b.drain()
	}
	p.Packets(false)
	wantSent(t, "SlaveWrite", p, "ab", 2, 0)
	wantOut(t, "without packets", p, "ab")
	wantSent(t, "SlaveWrite", p, "ab", 2, 0)
	p.Packets(true)
	wantOut(t, "those that went out before", p, "\x00ab")
}

// packeted is a pair of the setting s, with packets, that has come so far by text; nothing goes out, and no flag waits.
func packeted(t *testing.T, s api.Termios, text string) *pty.Pair {
	t.Helper()
	p := made(t, s)
	p.MasterWrite([]byte(text))
	p.MasterRead(room)
	p.Packets(true)
	return p
}

// P22.2: each flag, and their sums, in a packet by itself, ahead of the bytes.
func TestFlags(t *testing.T) {
	plain, kept, any := termios.Plain(), termios.Plain(), termios.Plain()
	kept.Local += noflsh
	any.In += ixany
	one := termios.Plain()
	one.Cc[vstart] = one.Cc[vstop]
	for i, x := range []struct {
		name   string
		set    api.Termios
		before string
		in     string
		flags  string // the packet of flags; nothing: there is none
		bytes  string
	}{
		{"nothing", plain, "", "", "", ""},
		{"letters", plain, "", "ab", "", "ab"},
		{"SigInt", plain, "", "\x03", "\x01", "^C"},
		{"SigQuit", plain, "", "\x1c", "\x01", "^\\"},
		{"SigTstp", plain, "", "a\x1ab", "\x01", "a^Zb"},
		{"two signals", plain, "", "\x03\x1a", "\x01", "^C^Z"},
		{"a signal with Noflsh", kept, "", "a\x03\x1c\x1a", "", "a^C^\\^Z"},
		{"without Isig", with(icrnl, post, icanon|echo), "", "\x03\x1c\x1a", "", "\x03\x1c\x1a"},
		{"Vstop", plain, "", "\x13", "\x04", ""},
		{"Vstop once more", plain, "\x13", "\x13", "", ""},
		{"Vstart", plain, "\x13", "\x11", "\x08", ""},
		{"Vstart, when it isn't stopped", plain, "", "\x11", "", ""},
		{"both", plain, "", "\x13\x11", "\x0c", ""},
		{"both, the other way", plain, "\x13", "\x11\x13", "\x0c", ""},
		{"both twice", plain, "", "\x13\x11\x13\x11", "\x0c", ""},
		{"one that is both", one, "", "\x13\x13", "\x04", ""},
		{"one that is both, once more", one, "\x13", "\x13", "", ""},
		{"without Ixon", with(icrnl, post, icanon|echo), "", "\x13\x11", "", "\x13\x11"},
		{"Ixany", any, "\x13", "a", "\x08", "a"},
		{"Ixany, when it isn't stopped", any, "", "a", "", "a"},
		{"without Ixany", plain, "\x13", "a", "", "a"},
		{"stopped, and a signal", plain, "", "\x13\x03", "\x0d", "^C"},
		{"a signal, and stopped", plain, "", "\x03\x13", "\x05", "^C"},
		{"a signal goes on", plain, "\x13", "\x03", "\x09", "^C"},
		{"a signal with Noflsh doesn't", kept, "\x13", "\x03", "", "^C"},
		{"Ixany and a signal with Noflsh", api.Termios{In: ixon | ixany, Out: post, Local: icanon | isig | noflsh, Cc: any.Cc}, "\x13", "\x03", "\x08", ""},
		{"a byte behind Vlnext", plain, "", "\x16\x03\x16\x13", "", "^\b^C^\b^S"},
		{"a line", plain, "", "a\r\x04", "", "a\r\n"},
	} {
		p := packeted(t, x.set, x.before)
		if n, _, e := p.MasterWrite([]byte(x.in)); n != len(x.in) || e != 0 {
			t.Errorf("%s: MasterWrite = %d, %v", x.name, n, e)
		}
		b, e := p.MasterRead(0)
		wantRead(t, x.name, b, e, "", errArg)
		if x.flags != "" {
			b, e = p.MasterRead(1 + 98*(i%2))
			wantRead(t, x.name, b, e, x.flags, 0)
		}
		if x.bytes != "" {
			x.bytes = "\x00" + x.bytes
		}
		wantOut(t, x.name, p, x.bytes)
		wantOut(t, x.name, p, "")
	}
}

// P22.2, P22.3: a flag that waits is a packet as long as the slave's end is closed, too, and whatever n is.
func TestFlagsClosed(t *testing.T) {
	p := packeted(t, termios.Plain(), "")
	wantIn(t, "MasterWrite", p, "\x13")
	p.Flush()
	p.CloseSlave()
	b, e := p.MasterRead(1)
	wantRead(t, "the flags", b, e, "\x05", 0)
	b, e = p.MasterRead(1)
	wantRead(t, "nothing", b, e, "", errIO)
	p.Flush()
	b, e = p.MasterRead(math.MaxInt)
	wantRead(t, "Flush of what is closed", b, e, "\x01", 0)
	p.Flush()
	p.CloseMaster()
	b, e = p.MasterRead(1)
	wantRead(t, "the master's end is closed", b, e, "", errClosed)
}

// P22.3: Packets, on or not, lets flags go, and none waits without packets; bytes stay, and that it is stopped.
func TestPackets(t *testing.T) {
	for _, on := range []bool{false, true} {
		p := packeted(t, termios.Plain(), "")
		wantIn(t, "MasterWrite", p, "a\x13\x03\x13", api.SigInt)
		p.Flush()
		p.Packets(on)
		all := "a^C"
		if on {
			all = "\x00" + all
		}
		wantOut(t, "no flags wait", p, all)
		wantOut(t, "nothing", p, "")
		wantSent(t, "it is stopped", p, "b", 0, errAgain)
		p.Packets(true)
		wantOut(t, "nothing", p, "")
		wantIn(t, "MasterWrite", p, "\x11")
		wantOut(t, "the flag", p, "\x08")
	}
	p := made(t, termios.Plain())
	wantIn(t, "without packets", p, "\x13\x11\x03\x13", api.SigInt)
	p.Flush()
	wantOut(t, "without packets", p, "^C")
	wantOut(t, "without packets", p, "")
	p.Packets(true)
	wantOut(t, "of what was before", p, "")
	p.Packets(false)
	p.Flush()
	wantIn(t, "not any more", p, "\x11\x13\x03", api.SigInt)
	p.Packets(true)
	wantOut(t, "not any more", p, "\x00^C")
}

// P22.3: Flush lets what came in go, not what goes out; with packets a flag waits.
func TestFlush(t *testing.T) {
	for _, packets := range []bool{false, true} {
		for _, s := range []api.Termios{termios.Plain(), termios.Raw(termios.Plain())} {
			b := start(t, s)
			b.packet(packets)
			b.flush()
			b.seen(9)
			b.in("ab\rc\x04\x04d")
			b.out("ef")
			b.flush()
			if in, _ := b.p.Waits(); in != 0 {
				t.Errorf("%d are ready", in)
			}
			b.flush()
			b.drain()
			b.in("g\r")
			b.drain()
			b.in("\x13")
			b.flush()
			b.out("h")
			b.drain()
		}
	}
	p := made(t, termios.Plain())
	wantIn(t, "MasterWrite", p, "ab\rc")
	p.Flush()
	wantOut(t, "what was shown stays", p, "ab\r\nc")
	b, e := p.SlaveRead(9)
	wantRead(t, "what came in went", b, e, "", errAgain)
	p.Packets(true)
	p.Flush()
	wantOut(t, "the flag", p, "\x01")
}

// P22.2: SlaveRead reads line by line, and tells the end of a file from nothing.
func TestSlaveRead(t *testing.T) {
	p := made(t, termios.Plain())
	read := func(n int, text string, wanted api.Errno) {
		t.Helper()
		b, e := p.SlaveRead(n)
		wantRead(t, "SlaveRead", b, e, text, wanted)
	}
	for _, n := range []int{1, 2, room, math.MaxInt} {
		read(n, "", errAgain)
	}
	for _, n := range []int{0, -1, -1 << 32, math.MinInt} {
		read(n, "", errArg)
	}
	wantIn(t, "a line that isn't ready", p, "abc")
	read(9, "", errAgain)
	wantIn(t, "lines", p, "d\r\ref\x04\x04\x04g\r")
	read(0, "", errArg)
	read(2, "ab", 0)
	read(9, "cd\n", 0)
	read(9, "\n", 0)
	read(2, "ef", 0)
	read(9, "", 0) // an end of file
	read(0, "", errArg)
	read(1, "", 0)
	read(1, "g", 0)
	read(math.MaxInt, "\n", 0)
	read(9, "", errAgain)
	wantIn(t, "an end of file", p, "\x04")
	read(9, "", 0)
	read(9, "", errAgain)
}

// P22.2: when the master's end is closed all is read that is ready, and then nothing, without an error.
func TestSlaveReadClosed(t *testing.T) {
	p := made(t, termios.Plain())
	wantIn(t, "MasterWrite", p, "ab\r\x04cd\ref")
	p.CloseMaster()
	for _, x := range []struct {
		n    int
		want string
		e    api.Errno
	}{{0, "", errArg}, {1, "a", 0}, {9, "b\n", 0}, {9, "", 0}, {9, "cd\n", 0}, {9, "", 0}, {1, "", 0}, {0, "", errArg}, {math.MinInt, "", errArg}, {math.MaxInt, "", 0}} {
		b, e := p.SlaveRead(x.n)
		wantRead(t, "SlaveRead", b, e, x.want, x.e)
	}
	in, out := p.Waits()
	want(t, "ready", in, 0)
	want(t, "out", out, len("ab\r\ncd\r\nef"))
	want(t, "Set", p.Set(termios.Raw(termios.Plain())), 0)
	b, e := p.SlaveRead(9)
	wantRead(t, "the line that wasn't ready", b, e, "ef", 0)
	b, e = p.SlaveRead(9)
	wantRead(t, "nothing", b, e, "", 0)
}

// P22.2, P22.4: without Icanon bytes are read as they came, whatever Min and Time are.
func TestSlaveReadRaw(t *testing.T) {
	for _, x := range [][2]int{{1, 0}, {0, 0}, {255, 255}, {0, 9}} {
		s := termios.Raw(termios.Plain())
		s.Min, s.Time = x[0], x[1]
		p := made(t, s)
		b, e := p.SlaveRead(9)
		wantRead(t, "nothing", b, e, "", errAgain)
		wantIn(t, "any bytes", p, "a\x04\r\n\x03\x13")
		wantOut(t, "nothing is shown", p, "")
		b, e = p.SlaveRead(1)
		wantRead(t, "one", b, e, "a", 0)
		b, e = p.SlaveRead(99)
		wantRead(t, "the rest", b, e, "\x04\r\n\x03\x13", 0)
		b, e = p.SlaveRead(99)
		wantRead(t, "nothing", b, e, "", errAgain)
		p.CloseMaster()
		b, e = p.SlaveRead(99)
		wantRead(t, "nothing comes any more", b, e, "", 0)
	}
}

// P22.3: Set is layer 18's, and counts for what comes then.
func TestSet(t *testing.T) {
	plain, raw := termios.Plain(), termios.Raw(termios.Plain())
	p := made(t, plain)
	wantIn(t, "MasterWrite", p, "ab\rcd\x13")
	want(t, "Set", p.Set(raw), 0)
	want(t, "Get", p.Get(), raw)
	wantSent(t, "it is stopped", p, "e", 0, errAgain)
	in, _ := p.Waits()
	want(t, "ready", in, 5)
	wantIn(t, "without Echo", p, "\x11")
	b, e := p.SlaveRead(3)
	wantRead(t, "SlaveRead", b, e, "ab\n", 0)
	want(t, "Set", p.Set(plain), 0)
	b, e = p.SlaveRead(3)
	wantRead(t, "a line that isn't ready", b, e, "", errAgain)
	wantIn(t, "it goes on, and the line is ready", p, "\x11\r")
	b, e = p.SlaveRead(9)
	wantRead(t, "SlaveRead", b, e, "cd\x11\n", 0)
	wantOut(t, "shown", p, "ab\r\ncd\r\n")
	want(t, "Set", p.Set(api.Termios{Time: 256}), errArg)
	want(t, "Get", p.Get(), plain)
	p.Packets(true)
	want(t, "Set", p.Set(raw), 0)
	want(t, "Set", p.Set(plain), 0)
	wantOut(t, "no packet comes of it", p, "")
}

// P22.3: Resize tells whether it is another size; one that there isn't changes nothing.
func TestResize(t *testing.T) {
	b := start(t, termios.Plain())
	for _, x := range [][2]int{{80, 24}, {24, 80}, {80, 24}, {81, 24}, {81, 25}, {81, 25}, {1, 1}, {1, 512}, {512, 1}, {512, 512}, {512, 512}} {
		b.resize(x[0], x[1])
	}
	for _, w := range bounds() {
		for _, h := range bounds() {
			b.resize(w, h)
		}
	}
	p := made(t, termios.Plain())
	other, e := p.Resize(80, 24)
	want(t, "the same", other, false)
	want(t, "the same", e, 0)
	other, e = p.Resize(512, 1)
	want(t, "another one", other, true)
	want(t, "another one", e, 0)
	for _, x := range [][2]int{{513, 1}, {0, 1}, {1, 513}, {1, 0}, {-1, 1}, {1, math.MinInt}} {
		other, e = p.Resize(x[0], x[1])
		want(t, "none such", other, false)
		want(t, "none such", e, errRange)
	}
	w, h := p.Size()
	want(t, "columns", w, 512)
	want(t, "rows", h, 1)
}

// P22.3: Waits tells what is ready, not the line that is edited, and what goes out, not the flags.
func TestWaits(t *testing.T) {
	p := made(t, termios.Plain())
	waits := func(in, out int) {
		t.Helper()
		gotIn, gotOut := p.Waits()
		want(t, "ready", gotIn, in)
		want(t, "out", gotOut, out)
	}
	waits(0, 0)
	wantIn(t, "MasterWrite", p, "abc")
	waits(0, 3)
	wantIn(t, "MasterWrite", p, "\r\x04d")
	waits(4, 6)
	p.SlaveRead(3)
	waits(1, 6)
	p.MasterRead(2)
	waits(1, 4)
	p.Packets(true)
	p.Flush()
	waits(0, 4)
	p.MasterRead(9)
	waits(0, 4)
	p.MasterRead(3)
	waits(0, 2)
	wantSent(t, "SlaveWrite", p, "\n", 1, 0)
	waits(0, 4)
	wantIn(t, "MasterWrite", p, "e\r")
	p.CloseMaster()
	p.CloseSlave()
	waits(2, 7)
}

// P22.4: what the slave writes comes in its order, between what is shown.
func TestOrder(t *testing.T) {
	p := made(t, termios.Plain())
	wantIn(t, "MasterWrite", p, "a")
	wantSent(t, "SlaveWrite", p, "1", 1, 0)
	wantIn(t, "MasterWrite", p, "b\x7f")
	wantSent(t, "SlaveWrite", p, "2\n", 2, 0)
	wantIn(t, "MasterWrite", p, "c\r")
	wantSent(t, "SlaveWrite", p, "3", 1, 0)
	wantOut(t, "all", p, "a1b\b \b2\r\nc\r\n3")
	c := rand.New(rand.NewPCG(22, 2))
	for range 200 {
		p := made(t, with(0, 0, echo))
		var sent, got strings.Builder
		for range 60 {
			text := strings.Repeat(string(rune('a'+c.IntN(26))), c.IntN(300))
			if n, _ := p.SlaveWrite([]byte(text)); c.IntN(2) == 0 || n < len(text) {
				sent.WriteString(text[:n])
			} else {
				_, out := p.Waits()
				sent.WriteString(text)
				text = strings.Repeat("#", c.IntN(300))
				p.MasterWrite([]byte(text))
				p.SlaveRead(room)
				sent.WriteString(text[:min(len(text), room-out)])
			}
			b, _ := p.MasterRead(1 + c.IntN(400))
			got.Write(b)
		}
		b, _ := p.MasterRead(room)
		got.Write(b)
		if got.String() != sent.String() {
			t.Fatalf("%q came, want %q", got.String(), sent.String())
		}
	}
}

// P22.4: what comes in is read as layer 18 tells, whatever goes out.
func TestRead(t *testing.T) {
	c := rand.New(rand.NewPCG(22, 3))
	for range 500 {
		s := anySetting(c)
		p, d := made(t, s), ldisc.New(s)
		for range 40 {
			text := anyText(c, 9)
			p.MasterWrite([]byte(text))
			p.SlaveWrite([]byte(anyText(c, 9)))
			for i := range len(text) {
				d.Input(text[i])
			}
			n := 1 + c.IntN(9)
			b, e := p.SlaveRead(n)
			want, end := d.Read(n)
			if string(b) != string(want) || (e == errAgain) != (len(want) == 0 && !end) || e != 0 && e != errAgain {
				t.Fatalf("%v: SlaveRead(%d) = %q, %v, want %q, %v", s, n, b, e, want, end)
			}
		}
	}
}

// few are bytes with which special characters come often.
var few = []byte{0, 1, 3, 4, 8, 9, 0x0a, 0x0d, 0x11, 0x13, 0x15, 0x16, 0x17, 0x1a, 0x1c, 0x12, ' ', 'a', 'b', 0x7f, 0x80, 0x8a, 0xc3, 0xff}

// anyText is a text of at most n bytes.
func anyText(c *rand.Rand, n int) string {
	b := make([]byte, c.IntN(n+1))
	for i := range b {
		b[i] = few[c.IntN(len(few))]
		if c.IntN(6) == 0 {
			b[i] = byte(c.IntN(256))
		}
	}
	return string(b)
}

// flagged is a sum of flags of at most most: any, all, or of an ordinary terminal.
func flagged(c *rand.Rand, most, plain int) int {
	switch c.IntN(4) {
	case 0:
		return most
	case 1:
		return plain ^ 1<<c.IntN(10)&most
	case 2:
		return plain
	}
	return c.IntN(most + 1)
}

// anySetting is any right setting; often its special characters are among few bytes.
func anySetting(c *rand.Rand) api.Termios {
	s := termios.Plain()
	s.In, s.Out, s.Local = flagged(c, 127, s.In), flagged(c, 63, s.Out), flagged(c, 1023, s.Local)
	s.Min, s.Time = c.IntN(256), c.IntN(256)
	switch c.IntN(3) {
	case 0:
		for i := range places {
			s.Cc[i] = int(few[c.IntN(len(few))])
		}
	case 1:
		s.Cc[c.IntN(places)] = int(few[c.IntN(len(few))])
	}
	return s
}

// any makes any call of both; n is any number.
func (b *both) any(c *rand.Rand, n int) {
	b.Helper()
	switch k := c.IntN(200); {
	case k < 60:
		b.in(anyText(c, 12))
	case k < 64:
		b.in(strings.Repeat(string(few[c.IntN(len(few)):][:1]), c.IntN(1500)))
	case k < 104:
		b.out(anyText(c, 12))
	case k < 112:
		b.out(strings.Repeat(anyText(c, 3), c.IntN(1500)))
	case k < 140:
		b.seen(n)
	case k < 142:
		b.seen(c.IntN(2 * room))
	case k < 170:
		b.read(n)
	case k < 176:
		b.set(anySetting(c))
	case k < 178:
		b.set(api.Termios{In: n, Min: n})
	case k < 184:
		b.resize(n, 1+c.IntN(3))
	case k < 190:
		b.packet(c.IntN(3) > 0)
	case k < 196:
		b.flush()
	case k < 198:
		b.drain()
	case k == 198:
		b.shutMaster()
	default:
		b.shutSlave()
	}
}

// P1, R1, P22.1 to P22.4: any calls, all against the words.
func TestAny(t *testing.T) {
	c := rand.New(rand.NewPCG(22, 4))
	for range 2500 {
		b := start(t, anySetting(c))
		b.packet(c.IntN(2) == 0)
		for range 120 {
			n := c.IntN(12) - 1
			if c.IntN(9) == 0 {
				n = bounds()[c.IntN(len(bounds()))]
			}
			b.any(c, n)
		}
		b.drain()
	}
}

// P22.1 to P22.4: all rows of four calls.
func TestEach(t *testing.T) {
	calls := []func(b *both){
		func(b *both) { b.in("a") },
		func(b *both) { b.in("\r") },
		func(b *both) { b.in("\x04") },
		func(b *both) { b.in("\x03") },
		func(b *both) { b.in("\x13") },
		func(b *both) { b.in("\x11") },
		func(b *both) { b.out("b\n") },
		func(b *both) { b.seen(1) },
		func(b *both) { b.seen(9) },
		func(b *both) { b.read(9) },
		func(b *both) { b.packet(true) },
		func(b *both) { b.packet(false) },
		func(b *both) { b.flush() },
		func(b *both) { b.shutMaster() },
		func(b *both) { b.shutSlave() },
		func(b *both) { b.set(termios.Raw(termios.Plain())) },
		func(b *both) { b.out("") },
	}
	total := 1
	for range 4 {
		total *= len(calls)
	}
	for i := range total {
		b := start(t, termios.Plain())
		for range 4 {
			calls[i%len(calls)](b)
			i /= len(calls)
		}
		b.drain()
	}
}

// P22.1: at each place near the end of the room, each kind of byte, shown and written.
func TestEdge(t *testing.T) {
	for _, out := range []int{0, 1, 3, 5, 9, 15, 33, 35, 63} {
		for left := range 11 {
			for _, c := range few {
				b := start(t, termios.Raw(termios.Plain()))
				b.out(xs(room - left))
				b.set(with(icrnl|imaxbel|ixon, out, icanon|echo|echoe|echoctl|isig|iexts))
				if left%2 == 0 {
					b.in(string([]byte{c, 'y', c}))
				}
				b.out(string([]byte{c, 'z', c}))
				b.in(string([]byte{c, 'y', c}))
				b.seen(1)
				b.out(string([]byte{c, 'z', c}))
				b.drain()
			}
		}
	}
}

// spoil writes over a list, and over what lies behind its length.
func spoil(b []byte) {
	for i := range b[:cap(b)] {
		b[:cap(b)][i] = '#'
	}
	_ = append(b, '#')
}

// R4: what is answered may be written over.
func TestMemory(t *testing.T) {
	c := rand.New(rand.NewPCG(22, 5))
	for range 200 {
		b := start(t, anySetting(c))
		b.packet(c.IntN(2) == 0)
		for range 40 {
			b.in(anyText(c, 9))
			b.out(anyText(c, 9))
			_, sigs, _ := b.p.MasterWrite([]byte("\x03\x1a"))
			b.m.MasterWrite("\x03\x1a")
			for i := range sigs[:cap(sigs)] {
				sigs[:cap(sigs)][i] = 77
			}
			n := 1 + c.IntN(9)
			got, _ := b.p.MasterRead(n)
			text, _ := b.m.MasterRead(n)
			want(t, "MasterRead", string(got), text)
			spoil(got)
			got, _ = b.p.SlaveRead(n)
			text, _ = b.m.SlaveRead(n)
			want(t, "SlaveRead", string(got), text)
			spoil(got)
			b.state()
		}
		b.drain()
	}
}

// R4: what was answered stays as it was, whatever comes then; what was handed in isn't changed, and isn't kept.
func TestKept(t *testing.T) {
	p := made(t, termios.Plain())
	text := []byte("ab\r?")
	wantIn(t, "MasterWrite", p, "\x03", api.SigInt)
	if n, _, _ := p.MasterWrite(text[:3]); n != 3 || string(text) != "ab\r?" {
		t.Errorf("MasterWrite = %d, and %q was handed in", n, text)
	}
	copy(text, "#\n#?")
	if n, _ := p.SlaveWrite(text[:2]); n != 2 || string(text) != "#\n#?" {
		t.Errorf("SlaveWrite = %d, and %q was handed in", n, text)
	}
	copy(text, "!!!!")
	_, sigs, _ := p.MasterWrite([]byte("\x1c\x1a"))
	wantIn(t, "MasterWrite", p, "ab\r")
	first, _ := p.MasterRead(3)
	line, _ := p.SlaveRead(2)
	rest, _ := p.MasterRead(99)
	wantIn(t, "signals", p, "xyz\x03\x03cdef\r", api.SigInt, api.SigInt)
	wantSent(t, "SlaveWrite", p, strings.Repeat("z", room), room-len("xyz^C^Ccdef\r\n"), 0)
	p.SlaveRead(99)
	p.MasterRead(room)
	if string(first) != "^Ca" || string(line) != "ab" || string(rest) != "b\r\n#\r\n^\\^Zab\r\n" || !slices.Equal(sigs, []int{api.SigQuit, api.SigTstp}) {
		t.Errorf("answers became %q, %q, %q, %v", first, line, rest, sigs)
	}
}

// R4: a setting that was handed in, and one that was answered, may be changed.
func TestSettingMemory(t *testing.T) {
	s := termios.Plain()
	p := made(t, s)
	s.Local = 0
	got := p.Get()
	got.Cc[vstop] = 'a'
	want(t, "Get", p.Get(), termios.Plain())
	wantIn(t, "MasterWrite", p, "a")
	wantOut(t, "shown", p, "a")
}

// R6: two pairs with the same calls have the same answers, and none knows of another.
func TestOneAnswer(t *testing.T) {
	c := rand.New(rand.NewPCG(22, 6))
	for range 100 {
		s := anySetting(c)
		a, b, other := start(t, s), start(t, s), start(t, anySetting(c))
		for range 50 {
			seed, n := c.Uint64(), c.IntN(9)
			a.any(rand.New(rand.NewPCG(seed, 0)), n)
			other.any(c, n)
			b.any(rand.New(rand.NewPCG(seed, 0)), n)
		}
		x, e := a.p.MasterRead(room)
		y, e2 := b.p.MasterRead(room)
		if string(x) != string(y) || e != e2 {
			t.Fatalf("%q, %v and %q, %v are two answers", x, e, y, e2)
		}
	}
}

// P1: what New answers of a setting that isn't right takes all calls, as a pair whose ends are closed.
func TestNil(t *testing.T) {
	p := pty.New(api.Termios{Min: -1})
	if p != nil {
		t.Fatal("New isn't nil")
	}
	for range 2 {
		n, sigs, e := p.MasterWrite([]byte("a\x03"))
		if n != 0 || sigs != nil || e != errClosed {
			t.Errorf("MasterWrite = %d, %v, %v", n, sigs, e)
		}
		wantSent(t, "SlaveWrite", p, "a", 0, errClosed)
		b, e := p.MasterRead(1)
		wantRead(t, "MasterRead", b, e, "", errClosed)
		b, e = p.SlaveRead(1)
		wantRead(t, "SlaveRead", b, e, "", errClosed)
		want(t, "Set", p.Set(termios.Plain()), errArg)
		want(t, "Get", p.Get(), api.Termios{})
		other, e := p.Resize(3, 3)
		want(t, "Resize", other, false)
		want(t, "Resize", e, errRange)
		w, h := p.Size()
		want(t, "Size", [2]int{w, h}, [2]int{})
		in, out := p.Waits()
		want(t, "Waits", [2]int{in, out}, [2]int{})
		want(t, "CloseMaster", p.CloseMaster(), false)
		want(t, "CloseSlave", p.CloseSlave(), false)
		p.Packets(true)
		p.Flush()
	}
}

// P1, R1: every call ends and none panics, at any argument, and all is as the words tell.
func FuzzAll(f *testing.F) {
	f.Add(84, 3, 623, 4, 3, "ab\x7fc\r", "x\n", 3, []byte{0, 1, 2, 3})
	f.Add(127, 63, 1023, 0, 0x0a, "\x16\x16\n\x17\x13\x04\x04", "\t\r\r", 1, []byte{6, 0, 2, 2, 5, 2, 4, 0})
	f.Add(48, 40, 1022, 11, 0x61, "a\x13b\x11", "\r\b\t", math.MaxInt, []byte{6, 0, 7, 1, 2, 9, 2, 2})
	f.Add(-1, 64, 1024, 12, 256, "\x00", "", math.MinInt, []byte{3, 8, 3, 0, 1})
	f.Fuzz(func(t *testing.T, in, out, local, place, special int, text, sent string, n int, calls []byte) {
		s := with(in, out, local)
		s.Cc[uint(place)%places] = special
		if !right(s) {
			if pty.New(s) != nil {
				t.Fatalf("New(%v) isn't nil", s)
			}
			s = termios.Plain()
		}
		b := start(t, s)
		for _, k := range calls[:min(len(calls), 60)] {
			switch k % 16 {
			case 0:
				b.in(text)
			case 1:
				b.out(sent)
			case 2:
				b.seen(n)
			case 3:
				b.read(n)
			case 4:
				b.set(with(in, out, local^icanon))
			case 5:
				b.flush()
			case 6:
				b.packet(k < 128)
			case 7:
				b.out(xs(max(0, room-len(b.m.out)-int(k/16))))
			case 8:
				b.shutMaster()
			case 9:
				b.shutSlave()
			case 10:
				b.resize(n, int(k))
			case 11:
				b.resize(int(k), n)
			case 12:
				b.seen(int(k/16) + 1)
			case 13:
				b.read(int(k/16) + 1)
			default:
				b.set(s)
			}
		}
		b.drain()
	})
}

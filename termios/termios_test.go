package termios_test

import (
	"math"
	"math/rand/v2"
	"testing"

	"betony/api"
	"betony/termios"
)

// What the chapter says the numbers of a setting are at most.
const (
	mostIn    = 127
	mostOut   = 63
	mostLocal = 1023
	mostByte  = 255
)

// tostop is the only flag that the raw one keeps.
const tostop = 256

// places is how many special characters there are.
const places = 12

// plain is the plain setting, number by number.
var plain = api.Termios{
	In:    4 + 16 + 64,
	Out:   1 + 2,
	Local: 1 + 2 + 4 + 8 + 32 + 64 + 512,
	Cc:    [places]int{0x03, 0x1c, 0x1a, 0x04, 0, 0x7f, 0x15, 0x17, 0x12, 0x16, 0x11, 0x13},
	Min:   1,
	Time:  0,
}

// bounds are numbers at all bounds, on either side.
func bounds() []int {
	return []int{math.MinInt, math.MinInt + 1, -1 << 32, -1024, -256, -255, -128, -64, -2, -1, 0, 1, 2, 11, 12, 13, 62, 63, 64, 65, 126, 127, 128, 129, 254, 255, 256, 257, 511, 512, 1022, 1023, 1024, 1025, 1<<16 + 1, 1<<31 - 1, 1 << 31, 1<<32 - 1, 1 << 32, 1<<32 + 1, 1<<32 + 255, math.MaxInt - 1, math.MaxInt}
}

// part is one number of a setting: where it is, and what it is at most.
type part struct {
	name string
	at   func(t *api.Termios) *int
	most int
}

// parts are all numbers of a setting.
func parts() []part {
	l := []part{
		{"In", func(t *api.Termios) *int { return &t.In }, mostIn},
		{"Out", func(t *api.Termios) *int { return &t.Out }, mostOut},
		{"Local", func(t *api.Termios) *int { return &t.Local }, mostLocal},
		{"Min", func(t *api.Termios) *int { return &t.Min }, mostByte},
		{"Time", func(t *api.Termios) *int { return &t.Time }, mostByte},
	}
	for i := range places {
		l = append(l, part{"Cc", func(t *api.Termios) *int { return &t.Cc[i] }, mostByte})
	}
	return l
}

// wordsRight tells by the words whether t is right.
func wordsRight(t api.Termios) bool {
	for _, p := range parts() {
		if n := *p.at(&t); n < 0 || n > p.most {
			return false
		}
	}
	return true
}

// wordsRaw is by the words the raw one of t.
func wordsRaw(t api.Termios) api.Termios {
	t.In, t.Out, t.Min, t.Time = 0, 0, 1, 0
	for bit := range 64 {
		if flag := 1 << bit; flag != tostop {
			t.Local &^= flag
		}
	}
	return t
}

// wordsIs is by the words what Is answers.
func wordsIs(t api.Termios, which int, c byte) bool {
	for i, special := range t.Cc {
		if i == which && special != 0 {
			return special == int(c)
		}
	}
	return false
}

// wordsMap is by the words what comes of c.
func wordsMap(t api.Termios, c byte) (byte, bool) {
	strip, igncr, icrnl, inlcr := t.In&1 != 0, t.In&2 != 0, t.In&4 != 0, t.In&8 != 0
	if strip && c >= 0x80 {
		c -= 0x80
	}
	if c == 0x0d {
		if igncr {
			return 0, false
		}
		if icrnl {
			return 0x0a, true
		}
		return 0x0d, true
	}
	if c == 0x0a && inlcr {
		return 0x0d, true
	}
	return c, true
}

// anyNumber is a number that a part, of at most most, may have, or, if wild, one that it may not.
func anyNumber(c *rand.Rand, most int, wild bool) int {
	if l := bounds(); wild && c.IntN(3) == 0 {
		return l[c.IntN(len(l))]
	}
	return c.IntN(most + 1)
}

// anySetting is a setting: a right one, or, if wild, any.
func anySetting(c *rand.Rand, wild bool) api.Termios {
	var t api.Termios
	for _, p := range parts() {
		*p.at(&t) = anyNumber(c, p.most, wild)
	}
	return t
}

// check holds all that can be asked of s against the words, but of the bytes and places alone that are named.
func check(t *testing.T, s api.Termios, which int, c byte) {
	t.Helper()
	was := s
	if got := termios.Right(s); got != wordsRight(s) {
		t.Fatalf("Right(%v) = %v", s, got)
	}
	raw := termios.Raw(s)
	if raw != wordsRaw(s) {
		t.Fatalf("Raw(%v) = %v, want %v", s, raw, wordsRaw(s))
	}
	if again := termios.Raw(raw); again != raw {
		t.Fatalf("Raw of the raw one %v = %v", raw, again)
	}
	if wordsRight(s) && !termios.Right(raw) {
		t.Fatalf("the raw one of %v isn't right: %v", s, raw)
	}
	if got := termios.Is(s, which, c); got != wordsIs(s, which, c) {
		t.Fatalf("Is(%v, %d, %x) = %v", s, which, c, got)
	}
	checkMap(t, s, c)
	if s != was {
		t.Fatalf("%v is changed: %v", was, s)
	}
}

// checkMap holds Map against the words.
func checkMap(t *testing.T, s api.Termios, c byte) {
	t.Helper()
	got, ok := termios.Map(s, c)
	if want, there := wordsMap(s, c); got != want || ok != there {
		t.Fatalf("Map(In %d, %x) = %x, %v, want %x, %v", s.In, c, got, ok, want, there)
	}
}

// P17.1: Plain is as told, number by number, and right.
func TestPlain(t *testing.T) {
	if got := termios.Plain(); got != plain {
		t.Errorf("Plain = %v, want %v", got, plain)
	}
	if !termios.Right(termios.Plain()) {
		t.Error("the plain one isn't right")
	}
}

// P17.1: Right, each number at all bounds, the others least, as in the plain one, and most.
func TestRightBounds(t *testing.T) {
	var most api.Termios
	for _, p := range parts() {
		*p.at(&most) = p.most
	}
	for _, s := range []api.Termios{{}, plain, most} {
		if !termios.Right(s) {
			t.Errorf("%v isn't right", s)
		}
		for i, p := range parts() {
			for _, n := range append(bounds(), p.most-1, p.most, p.most+1) {
				x := s
				*p.at(&x) = n
				if got, want := termios.Right(x), n >= 0 && n <= p.most; got != want {
					t.Errorf("%s (part %d) = %d: Right = %v", p.name, i, n, got)
				}
			}
		}
	}
}

// P17.1: Right, two numbers at all bounds.
func TestRightPairs(t *testing.T) {
	for _, p := range parts() {
		for _, q := range parts() {
			for _, n := range bounds() {
				for _, m := range []int{math.MinInt, -1, 0, p.most, q.most, q.most + 1, math.MaxInt} {
					s := plain
					*p.at(&s) = n
					*q.at(&s) = m
					if got := termios.Right(s); got != wordsRight(s) {
						t.Fatalf("Right(%v) = %v", s, got)
					}
				}
			}
		}
	}
}

// P17.1: Right, all sums of flags, and the numbers beside them.
func TestRightFlags(t *testing.T) {
	for n := -300; n < 3000; n++ {
		for _, p := range parts() {
			s := plain
			*p.at(&s) = n
			if got := termios.Right(s); got != wordsRight(s) {
				t.Fatalf("%s = %d: Right = %v", p.name, n, got)
			}
		}
	}
}

// P17.1: Raw, of ordinary settings.
func TestRaw(t *testing.T) {
	cc := plain.Cc
	for _, x := range []struct{ s, want api.Termios }{
		{plain, api.Termios{Cc: cc, Min: 1}},
		{api.Termios{}, api.Termios{Min: 1}},
		{api.Termios{In: 127, Out: 63, Local: 1023, Cc: cc, Min: 255, Time: 255}, api.Termios{Local: tostop, Cc: cc, Min: 1}},
		{api.Termios{In: 127, Out: 63, Local: 1023 - tostop, Cc: cc, Min: 7, Time: 9}, api.Termios{Cc: cc, Min: 1}},
		{api.Termios{Local: tostop, Min: 0, Time: 3}, api.Termios{Local: tostop, Min: 1}},
		{api.Termios{Cc: [places]int{1, 2, 3, 4, 5, 6, 7, 8, 9, 10, 11, 12}}, api.Termios{Cc: [places]int{1, 2, 3, 4, 5, 6, 7, 8, 9, 10, 11, 12}, Min: 1}},
	} {
		if got := termios.Raw(x.s); got != x.want {
			t.Errorf("Raw(%v) = %v, want %v", x.s, got, x.want)
		}
	}
}

// P17.1, P17.3: Raw, of all local flags, and of each number at all bounds.
func TestRawAll(t *testing.T) {
	for local := range mostLocal + 1 {
		s := plain
		s.Local = local
		check(t, s, api.Vintr, 3)
	}
	for _, p := range parts() {
		for _, n := range append(bounds(), tostop, tostop-1, tostop+1, -tostop, 1<<40+tostop, 1<<40-1-tostop) {
			s := plain
			*p.at(&s) = n
			check(t, s, api.Veol, 0)
		}
	}
}

// P17.3: the raw one of any right one is right, and of itself itself.
func TestRawRight(t *testing.T) {
	c := rand.New(rand.NewPCG(17, 1))
	for range 20000 {
		s := anySetting(c, false)
		raw := termios.Raw(s)
		if !termios.Right(s) || !termios.Right(raw) || termios.Raw(raw) != raw || raw.Cc != s.Cc {
			t.Fatalf("Raw(%v) = %v", s, raw)
		}
	}
}

// P17.1: Is, each byte at each place of the plain one.
func TestIs(t *testing.T) {
	p := termios.Plain()
	names := [places]int{api.Vintr, api.Vquit, api.Vsusp, api.Veof, api.Veol, api.Verase, api.Vkill, api.Vwerase, api.Vreprint, api.Vlnext, api.Vstart, api.Vstop}
	for place, which := range names {
		for b := range 256 {
			want := b != 0 && b == plain.Cc[place]
			if got := termios.Is(p, which, byte(b)); got != want {
				t.Errorf("Is(plain, %d, %x) = %v", which, b, got)
			}
		}
	}
}

// P17.1: Is, each byte as the special character of each place alone: not of any other one; a 0 is none.
func TestIsPlaces(t *testing.T) {
	for place := range places {
		for b := range 256 {
			var s api.Termios
			s.Cc[place] = b
			for which := -2; which < places+3; which++ {
				if got, want := termios.Is(s, which, byte(b)), which == place && b != 0; got != want {
					t.Fatalf("the place %d has %x: Is(%d, %x) = %v", place, b, which, b, got)
				}
				if termios.Is(s, which, 0) {
					t.Fatalf("the place %d has %x: a 0 is the one of %d", place, b, which)
				}
				if other := byte(b + 1); termios.Is(s, which, other) {
					t.Fatalf("the place %d has %x: %x is the one of %d", place, b, other, which)
				}
			}
		}
	}
}

// P17.1: Is, places that there aren't, and settings all of whose special characters are the same one.
func TestIsBounds(t *testing.T) {
	for _, which := range bounds() {
		for _, b := range []byte{0, 1, 3, 0x7f, 0x80, 0xff} {
			var s api.Termios
			for i := range places {
				s.Cc[i] = int(b)
			}
			want := which >= 0 && which < places && b != 0
			if got := termios.Is(s, which, b); got != want {
				t.Errorf("Is(%d, %x) = %v", which, b, got)
			}
		}
	}
}

// P17.1: Is, special characters that are no bytes: no byte is such a one.
func TestIsNoBytes(t *testing.T) {
	for _, n := range append(bounds(), 256+3, 3-256, 1<<32+3, -3) {
		var s api.Termios
		s.Cc[api.Vquit] = n
		for b := range 256 {
			if got, want := termios.Is(s, api.Vquit, byte(b)), b != 0 && b == n; got != want {
				t.Fatalf("the place has %d: Is(%x) = %v", n, b, got)
			}
		}
	}
}

// The chapter's example, and P17.2 of ordinary bytes.
func TestMap(t *testing.T) {
	const strip, igncr, icrnl, inlcr = 1, 2, 4, 8
	for _, x := range []struct {
		in   int
		c    byte
		want byte
		ok   bool
	}{
		{plain.In, 0x0d, 0x0a, true},
		{plain.In, 0x0a, 0x0a, true},
		{plain.In, 'a', 'a', true},
		{plain.In, 0x8d, 0x8d, true},
		{0, 0x0d, 0x0d, true},
		{0, 0x0a, 0x0a, true},
		{0, 0, 0, true},
		{0, 0xff, 0xff, true},
		{strip, 0xff, 0x7f, true},
		{strip, 0x80, 0, true},
		{strip, 0x7f, 0x7f, true},
		{strip, 0x8d, 0x0d, true},
		{strip, 0x8a, 0x0a, true},
		{igncr, 0x0d, 0, false},
		{igncr, 0x0a, 0x0a, true},
		{igncr, 0x8d, 0x8d, true},
		{igncr | icrnl, 0x0d, 0, false},
		{igncr | inlcr, 0x0d, 0, false},
		{strip | igncr, 0x8d, 0, false},
		{strip | igncr | icrnl, 0x8d, 0, false},
		{icrnl, 0x0d, 0x0a, true},
		{icrnl, 0x0a, 0x0a, true},
		{icrnl, 0x8d, 0x8d, true},
		{strip | icrnl, 0x8d, 0x0a, true},
		{inlcr, 0x0a, 0x0d, true},
		{inlcr, 0x0d, 0x0d, true},
		{inlcr, 0x8a, 0x8a, true},
		{strip | inlcr, 0x8a, 0x0d, true},
		// What one of them made isn't turned by another.
		{icrnl | inlcr, 0x0d, 0x0a, true},
		{icrnl | inlcr, 0x0a, 0x0d, true},
		{igncr | inlcr, 0x0a, 0x0d, true},
		{igncr | icrnl | inlcr, 0x0a, 0x0d, true},
		{strip | icrnl | inlcr, 0x8d, 0x0a, true},
		{strip | igncr | inlcr, 0x8a, 0x0d, true},
		// The other flags count for nothing.
		{16 | 32 | 64, 0x0d, 0x0d, true},
		{16 | 32 | 64, 0x0a, 0x0a, true},
		{16 | 32 | 64, 0xe1, 0xe1, true},
	} {
		if got, ok := termios.Map(api.Termios{In: x.in}, x.c); got != x.want || ok != x.ok {
			t.Errorf("Map(In %d, %x) = %x, %v, want %x, %v", x.in, x.c, got, ok, x.want, x.ok)
		}
	}
	if got, ok := termios.Map(termios.Plain(), 0x0d); got != 0x0a || !ok {
		t.Errorf("Map(plain, 0d) = %x, %v", got, ok)
	}
}

// P17.2: Map, each byte with all flags, with numbers that are no sums of flags, and whatever else is in the setting.
func TestMapAll(t *testing.T) {
	c := rand.New(rand.NewPCG(17, 2))
	ins := bounds()
	for n := -300; n < 600; n++ {
		ins = append(ins, n)
	}
	for _, in := range ins {
		some := anySetting(c, true)
		some.In = in
		for b := range 256 {
			checkMap(t, api.Termios{In: in}, byte(b))
			checkMap(t, some, byte(b))
		}
	}
}

// P1, R1: any settings, right or not.
func TestAny(t *testing.T) {
	c := rand.New(rand.NewPCG(17, 3))
	for i := range 30000 {
		s := anySetting(c, i%2 == 0)
		which := c.IntN(places+2) - 1
		b := byte(c.IntN(256))
		if which >= 0 && which < places && c.IntN(2) == 0 {
			b = byte(s.Cc[which])
		}
		check(t, s, which, b)
	}
}

// R4: what Plain and Raw answer may be written over, and what was handed in isn't changed by it.
func TestMemory(t *testing.T) {
	first := termios.Plain()
	raw := termios.Raw(first)
	for _, p := range parts() {
		*p.at(&raw) = -7
	}
	if first != plain {
		t.Errorf("what was handed in is changed: %v", first)
	}
	other := termios.Raw(first)
	for _, p := range parts() {
		*p.at(&first) = -7
	}
	if got := termios.Plain(); got != plain {
		t.Errorf("Plain = %v, when another answer is written over", got)
	}
	if other != wordsRaw(plain) {
		t.Errorf("an answer is changed: %v", other)
	}
}

// R6: the same call has the same answer, whatever was asked between.
func TestOneAnswer(t *testing.T) {
	c := rand.New(rand.NewPCG(17, 4))
	for range 5000 {
		s, o := anySetting(c, true), anySetting(c, true)
		which, b := c.IntN(places), byte(c.IntN(256))
		right, raw, is := termios.Right(s), termios.Raw(s), termios.Is(s, which, b)
		m, ok := termios.Map(s, b)
		termios.Right(o)
		termios.Raw(o)
		termios.Is(o, which, b+1)
		termios.Map(o, b+1)
		if termios.Right(s) != right || termios.Raw(s) != raw || termios.Is(s, which, b) != is || termios.Plain() != plain {
			t.Fatalf("%v has two answers", s)
		}
		if again, there := termios.Map(s, b); again != m || there != ok {
			t.Fatalf("Map(%v, %x) has two answers", s, b)
		}
	}
}

// P1, R1: every call ends and none panics, at any argument.
func FuzzAll(f *testing.F) {
	f.Add(84, 3, 623, 0, 3, 1, 0, 0, byte(3))
	f.Add(127, 63, 1023, 11, 255, 255, 255, 11, byte(0x0d))
	f.Add(128, 64, 1024, 12, 256, 256, 256, 12, byte(0x0a))
	f.Add(-1, -1, -1, -1, -1, -1, -1, -1, byte(0x8d))
	f.Add(math.MinInt, math.MaxInt, math.MinInt, math.MaxInt, math.MinInt, math.MaxInt, math.MinInt, math.MinInt, byte(0x8a))
	f.Fuzz(func(t *testing.T, in, out, local, place, special, least, time, which int, c byte) {
		s := api.Termios{In: in, Out: out, Local: local, Min: least, Time: time}
		s.Cc[uint(place)%places] = special
		check(t, s, which, c)
		check(t, s, place, byte(special))
	})
}

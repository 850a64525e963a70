package scan_test

import (
	"bytes"
	"math"
	"math/rand/v2"
	"testing"

	"betony/api"
	"betony/scan"
)

const (
	shift = api.ModShift
	ctrl  = api.ModCtrl
	alt   = api.ModAlt
	all   = shift | ctrl | alt
)

// The keys of the modifiers.
const (
	keyShift = 0x60
	keyCtrl  = 0x61
	keyAlt   = 0x62
)

// words are a key's bytes by the chapter's words: alone, with Shift, with Ctrl (and Shift or not), in the application's mode.
type words struct{ alone, shift, ctrl, ctrlShift, app string }

// one is of a key with which Ctrl and the mode change nothing.
func one(alone, shift string) words { return words{alone, shift, alone, shift, alone} }

// known are the keys that have bytes, by their scancodes.
var known = func() map[int]words {
	m := map[int]words{
		0x24: one("0", ")"),
		0x25: {" ", " ", "\x00", "\x00", " "},
		0x26: one("\r", "\r"),
		0x27: one("\x7f", "\x7f"),
		0x28: one("\t", "\x1b[Z"),
		0x29: one("\x1b", "\x1b"),
		0x2a: one("-", "_"),
		0x2b: one("=", "+"),
		0x2c: one("[", "{"),
		0x2d: one("]", "}"),
		0x2e: one("\\", "|"),
		0x2f: one(";", ":"),
		0x30: one("'", "\""),
		0x31: one(",", "<"),
		0x32: one(".", ">"),
		0x33: one("/", "?"),
		0x34: one("\x60", "~"),
		0x46: one("\x1b[5~", "\x1b[5~"),
		0x47: one("\x1b[6~", "\x1b[6~"),
		0x48: one("\x1b[2~", "\x1b[2~"),
		0x49: one("\x1b[3~", "\x1b[3~"),
		0x50: one("\x1bOP", "\x1bOP"),
		0x51: one("\x1bOQ", "\x1bOQ"),
		0x52: one("\x1bOR", "\x1bOR"),
		0x53: one("\x1bOS", "\x1bOS"),
	}
	for n := range 26 {
		s, c := string(rune(0x61+n)), string(rune(1+n))
		m[0x01+n] = words{s, string(rune(0x41 + n)), c, c, s}
	}
	for i, s := range []string{"!", "@", "#", "$", "%", "^", "&", "*", "("} {
		m[0x1b+i] = one(string(rune(0x31+i)), s)
	}
	for i, s := range []string{"A", "B", "C", "D", "H", "F"} { // up, down, right, left, home, end
		w := one("\x1b["+s, "\x1b["+s)
		w.app = "\x1bO" + s
		m[0x40+i] = w
	}
	return m
}()

// want is a key's bytes by the words.
func want(k api.Key, app bool) string {
	w, ok := known[k.Code]
	if !ok {
		return ""
	}
	s := w.alone
	switch {
	case app && w.app != w.alone: // of these no modifier but Alt changes the bytes
		s = w.app
	case k.Mods&ctrl != 0 && k.Mods&shift != 0:
		s = w.ctrlShift
	case k.Mods&ctrl != 0:
		s = w.ctrl
	case k.Mods&shift != 0:
		s = w.shift
	}
	if k.Mods&alt != 0 {
		s = "\x1b" + s
	}
	return s
}

// checkBytes holds Bytes against the words.
func checkBytes(t *testing.T, k api.Key) {
	t.Helper()
	for _, app := range []bool{false, true} {
		if got := scan.Bytes(k, app); string(got) != want(k, app) {
			t.Fatalf("Bytes(%x, mods %x, %v) = %q, want %q", k.Code, k.Mods, app, got, want(k, app))
		}
	}
}

// tells tells by the words whether a scancode is a key that goes down and isn't a modifier's.
func tells(c byte) bool {
	_, ok := known[int(c)]
	return ok || c == 0x76
}

// model is a Decoder by the words: which keys are down.
type model map[byte]bool

func (m model) mods() int {
	n := 0
	for c, mod := range map[byte]int{keyShift: shift, keyCtrl: ctrl, keyAlt: alt} {
		if m[c] {
			n += mod
		}
	}
	return n
}

func (m model) feed(c byte) (api.Key, bool) {
	m[c%0x80] = c < 0x80
	if !tells(c) {
		return api.Key{}, false
	}
	return api.Key{Code: int(c), Mods: m.mods()}, true
}

// checkFeed feeds c to both.
func checkFeed(t *testing.T, d *scan.Decoder, m model, c byte) {
	t.Helper()
	was := d.Mods()
	k, ok := d.Feed(c)
	if want, told := m.feed(c); k != want || ok != told || d.Mods() != m.mods() {
		t.Fatalf("Feed(%x) with %x down = %x, %v, then %x down; want %x, %v, %x", c, was, k, ok, d.Mods(), want, told, m.mods())
	}
}

// withDown is a Decoder with modifiers down, and the same by the words.
func withDown(t *testing.T, mods int) (*scan.Decoder, model) {
	t.Helper()
	d, m := &scan.Decoder{}, model{}
	for i, c := range []byte{keyShift, keyCtrl, keyAlt} {
		if mods>>i&1 != 0 {
			checkFeed(t, d, m, c)
		}
	}
	if d.Mods() != mods {
		t.Fatalf("%x down, want %x", d.Mods(), mods)
	}
	return d, m
}

// The chapter's examples, from scancodes to bytes.
func TestExamples(t *testing.T) {
	for _, x := range []struct {
		codes []byte
		want  string
	}{
		{[]byte{0x60, 0x01}, "A"},
		{[]byte{0x61, 0x03}, "\x03"},
		{[]byte{0x08, 0x88, 0x05, 0x0c, 0x85, 0x8c, 0x0c, 0x8c, 0x0f, 0x26}, "hello\r"},
		{[]byte{0x60, 0x1b, 0xe0, 0x1b}, "!1"},
		{[]byte{0x60, 0x61, 0x03, 0xe0, 0x03, 0xe1, 0x03}, "\x03\x03c"},
		{[]byte{0x62, 0x60, 0x01, 0xe2, 0x01}, "\x1bAA"},
		{[]byte{0x61, 0x76, 0xf6, 0x00, 0x80, 0x35, 0xff, 0x7f}, ""},
	} {
		var d scan.Decoder
		var got []byte
		for _, c := range x.codes {
			if k, ok := d.Feed(c); ok {
				got = append(got, scan.Bytes(k, false)...)
			}
		}
		if string(got) != x.want {
			t.Errorf("% x: %q, want %q", x.codes, got, x.want)
		}
	}
}

// P8.1: the zero Decoder has no key down.
func TestZero(t *testing.T) {
	var d scan.Decoder
	if d.Mods() != 0 {
		t.Errorf("%x down", d.Mods())
	}
	if k, ok := d.Feed(0x01); !ok || k != (api.Key{Code: 1}) {
		t.Errorf("Feed(1) = %v, %v", k, ok)
	}
}

// P8.1: Feed, step by step.
func TestFeed(t *testing.T) {
	var d scan.Decoder
	none := api.Key{}
	for i, x := range []struct {
		c    byte
		k    api.Key
		ok   bool
		mods int
	}{
		{0x01, api.Key{Code: 0x01}, true, 0},
		{0x81, none, false, 0},
		{0x60, none, false, shift}, // Shift tells nothing
		{0x1a, api.Key{Code: 0x1a, Mods: shift}, true, shift},
		{0x60, none, false, shift}, // again, and up at once
		{0xe0, none, false, 0},
		{0xe0, none, false, 0},
		{0x1a, api.Key{Code: 0x1a}, true, 0},
		{0xe1, none, false, 0}, // what isn't down goes up
		{0x61, none, false, ctrl},
		{0x62, none, false, ctrl | alt},
		{0xe0, none, false, ctrl | alt},
		{0x76, api.Key{Code: api.Attention, Mods: ctrl | alt}, true, ctrl | alt},
		{0xf6, none, false, ctrl | alt},
		{0xe1, none, false, alt},
		{0x34, api.Key{Code: 0x34, Mods: alt}, true, alt},
		{0x00, none, false, alt}, // none
		{0x80, none, false, alt},
		{0x35, none, false, alt},
		{0x3f, none, false, alt},
		{0x40, api.Key{Code: 0x40, Mods: alt}, true, alt},
		{0x49, api.Key{Code: 0x49, Mods: alt}, true, alt},
		{0x4a, none, false, alt},
		{0x4f, none, false, alt},
		{0x50, api.Key{Code: 0x50, Mods: alt}, true, alt},
		{0x53, api.Key{Code: 0x53, Mods: alt}, true, alt},
		{0x54, none, false, alt},
		{0x5f, none, false, alt},
		{0x63, none, false, alt},
		{0x75, none, false, alt},
		{0x77, none, false, alt},
		{0xff, none, false, alt},
		{0xe2, none, false, 0},
	} {
		if k, ok := d.Feed(x.c); k != x.k || ok != x.ok || d.Mods() != x.mods {
			t.Fatalf("step %d: Feed(%x) = %x, %v, then %x down; want %x, %v, %x", i, x.c, k, ok, d.Mods(), x.k, x.ok, x.mods)
		}
	}
}

// P8.1: each scancode behind each other one, whichever modifiers are down.
func TestEachScancode(t *testing.T) {
	for mods := range all + 1 {
		for a := range 256 {
			for b := range 256 {
				d, m := withDown(t, mods)
				checkFeed(t, d, m, byte(a))
				checkFeed(t, d, m, byte(b))
				checkFeed(t, d, m, 0x01)
			}
		}
	}
}

// P8.1: there are so many keys, and no others.
func TestHowMany(t *testing.T) {
	var d scan.Decoder
	keys := 0
	for c := range 0x60 {
		if _, ok := d.Feed(byte(c)); ok {
			keys++
		}
	}
	if keys != 26+10+16+10+4 || len(known) != keys {
		t.Errorf("%d keys", keys)
	}
}

// scancode is any one, often a modifier's.
func scancode(c *rand.Rand) byte {
	if c.IntN(3) == 0 {
		return byte(keyShift + c.IntN(3) + 0x80*c.IntN(2))
	}
	return byte(c.IntN(256))
}

// P8.1: any scancodes, one behind the other.
func TestAnyScancodes(t *testing.T) {
	c := rand.New(rand.NewPCG(8, 1))
	for range 500 {
		d, m := withDown(t, 0)
		for range 200 {
			checkFeed(t, d, m, scancode(c))
		}
	}
}

// P8.2: scancodes of other keys, laid between, change nothing that the others tell.
func TestOtherKeys(t *testing.T) {
	c := rand.New(rand.NewPCG(8, 2))
	for range 1000 {
		var d, o scan.Decoder
		for range 100 {
			for range c.IntN(4) {
				b := scancode(c)
				if low := b % 0x80; low < keyShift || low > keyAlt {
					o.Feed(b)
				}
			}
			b := scancode(c)
			k, ok := d.Feed(b)
			if l, told := o.Feed(b); k != l || ok != told || d.Mods() != o.Mods() {
				t.Fatalf("Feed(%x) = %x, %v, or %x, %v", b, k, ok, l, told)
			}
		}
	}
}

// P8.2: a key that is down tells itself once more, and beside any other one that is.
func TestKeysTogether(t *testing.T) {
	for mods := range all + 1 {
		d, _ := withDown(t, mods)
		for range 3 {
			for code := range known {
				if k, ok := d.Feed(byte(code)); !ok || k != (api.Key{Code: code, Mods: mods}) {
					t.Fatalf("Feed(%x) with %x down = %x, %v", code, mods, k, ok)
				}
			}
		}
	}
}

// P8.1: Bytes, of keys whose bytes are told here.
func TestBytes(t *testing.T) {
	for _, x := range []struct {
		k    api.Key
		app  bool
		want string
	}{
		{api.Key{Code: 0x01}, false, "a"},
		{api.Key{Code: 0x1a}, true, "z"},
		{api.Key{Code: 0x1a, Mods: shift}, false, "Z"},
		{api.Key{Code: 0x1a, Mods: ctrl}, false, "\x1a"},
		{api.Key{Code: 0x01, Mods: ctrl | shift}, true, "\x01"},
		{api.Key{Code: 0x01, Mods: alt}, false, "\x1ba"},
		{api.Key{Code: 0x01, Mods: alt | shift}, false, "\x1bA"},
		{api.Key{Code: 0x01, Mods: alt | ctrl}, false, "\x1b\x01"},
		{api.Key{Code: 0x01, Mods: all}, false, "\x1b\x01"},
		{api.Key{Code: 0x1b}, false, "1"},
		{api.Key{Code: 0x23, Mods: shift}, false, "("},
		{api.Key{Code: 0x24, Mods: shift}, false, ")"},
		{api.Key{Code: 0x1c, Mods: shift | ctrl}, false, "@"},
		{api.Key{Code: 0x1c, Mods: ctrl}, false, "2"},
		{api.Key{Code: 0x25, Mods: shift}, false, " "},
		{api.Key{Code: 0x25, Mods: all}, false, "\x1b\x00"},
		{api.Key{Code: 0x26, Mods: ctrl}, false, "\r"},
		{api.Key{Code: 0x27, Mods: alt}, false, "\x1b\x7f"},
		{api.Key{Code: 0x28, Mods: ctrl}, false, "\t"},
		{api.Key{Code: 0x28, Mods: ctrl | shift}, false, "\x1b[Z"},
		{api.Key{Code: 0x28, Mods: alt | shift}, true, "\x1b\x1b[Z"},
		{api.Key{Code: 0x29, Mods: alt}, false, "\x1b\x1b"},
		{api.Key{Code: 0x2c, Mods: ctrl}, false, "["},
		{api.Key{Code: 0x2e, Mods: shift}, false, "|"},
		{api.Key{Code: 0x34}, false, "\x60"},
		{api.Key{Code: 0x40}, false, "\x1b[A"},
		{api.Key{Code: 0x45}, true, "\x1bOF"},
		{api.Key{Code: 0x43, Mods: shift | ctrl}, true, "\x1bOD"},
		{api.Key{Code: 0x44, Mods: alt}, true, "\x1b\x1bOH"},
		{api.Key{Code: 0x46, Mods: shift}, true, "\x1b[5~"},
		{api.Key{Code: 0x49, Mods: alt}, false, "\x1b\x1b[3~"},
		{api.Key{Code: 0x50}, false, "\x1bOP"},
		{api.Key{Code: 0x53}, true, "\x1bOS"},
		// What has no bytes has none with Alt either.
		{api.Key{Code: api.Attention}, true, ""},
		{api.Key{Code: api.Attention, Mods: alt}, false, ""},
		{api.Key{Code: keyShift}, false, ""},
		{api.Key{Code: keyAlt, Mods: alt}, false, ""},
		{api.Key{Mods: alt}, false, ""},
		{api.Key{Code: 0x35, Mods: all}, false, ""},
		{api.Key{Code: 0x81}, false, ""},
		{api.Key{Code: -1, Mods: all}, true, ""},
	} {
		if got := scan.Bytes(x.k, x.app); string(got) != x.want {
			t.Errorf("Bytes(%x, mods %x, %v) = %q, want %q", x.k.Code, x.k.Mods, x.app, got, x.want)
		}
	}
}

// bounds are numbers at all bounds, on either side, and some that have a key's lowest bits.
func bounds() []int {
	return []int{math.MinInt, math.MinInt + 1, math.MinInt + 0x40, -1<<32 + 1, -0x100 + 1, -0x7f, -2, -1, 0, 1, 1<<8 + 1, 1<<16 + 0x28, 1<<32 - 1, 1 << 32, 1<<32 + 0x25, math.MaxInt - 1, math.MaxInt}
}

// P8.1: Bytes, of each key with all modifiers, and of what is none.
func TestEachKey(t *testing.T) {
	codes := bounds()
	for code := -0x200; code < 0x400; code++ {
		codes = append(codes, code)
	}
	for _, code := range codes {
		for mods := range all + 1 {
			checkBytes(t, api.Key{Code: code, Mods: mods})
		}
	}
}

// R1: modifiers of any number: bits that are no modifier's count for nothing.
func TestAnyMods(t *testing.T) {
	for code := range known {
		for _, mods := range bounds() {
			for more := range all + 1 {
				m := mods&^all | more
				checkBytes(t, api.Key{Code: code, Mods: m})
				if got, plain := scan.Bytes(api.Key{Code: code, Mods: m}, false), scan.Bytes(api.Key{Code: code, Mods: more}, false); !bytes.Equal(got, plain) {
					t.Fatalf("Bytes(%x, mods %x) = %q, want %q", code, m, got, plain)
				}
			}
		}
	}
}

// P8.1: each key that Feed tells has bytes, but attention; and each that has bytes is told.
func TestToldHaveBytes(t *testing.T) {
	for mods := range all + 1 {
		for c := range 256 {
			d, _ := withDown(t, mods)
			k, ok := d.Feed(byte(c))
			has := len(scan.Bytes(api.Key{Code: c, Mods: mods}, false)) > 0
			if ok != (has || c == api.Attention) {
				t.Fatalf("Feed(%x) = %x, %v, bytes: %v", c, k, ok, has)
			}
		}
	}
}

// R4: what is answered may be written over.
func TestMemory(t *testing.T) {
	for code := range known {
		for mods := range all + 1 {
			k := api.Key{Code: code, Mods: mods}
			b := scan.Bytes(k, true)
			b = b[:cap(b)]
			for i := range b {
				b[i] = 77
			}
			checkBytes(t, k)
		}
	}
}

// R6: two Decoders have nothing in common, and one that is taken by its value goes on by itself.
func TestDecodersApart(t *testing.T) {
	var a, b scan.Decoder
	a.Feed(keyShift)
	c := a
	b.Feed(keyAlt)
	c.Feed(keyCtrl)
	a.Feed(0x80 + keyShift)
	if a.Mods() != 0 || b.Mods() != alt || c.Mods() != shift|ctrl {
		t.Errorf("%x, %x, %x down", a.Mods(), b.Mods(), c.Mods())
	}
}

// P1, R1: every call ends and none panics, at any argument.
func FuzzAll(f *testing.F) {
	f.Add([]byte{0x60, 0x01, 0xe0, 0x76}, 1, shift)
	f.Add([]byte{0x00, 0xff, 0x7f, 0x80}, math.MinInt, math.MinInt)
	f.Add([]byte{}, math.MaxInt, -1)
	f.Add([]byte{0x61, 0x62}, 0x40, alt)
	f.Fuzz(func(t *testing.T, codes []byte, code, mods int) {
		d, m := withDown(t, 0)
		for _, c := range codes {
			checkFeed(t, d, m, c)
		}
		checkBytes(t, api.Key{Code: code, Mods: mods})
		checkBytes(t, api.Key{Code: code & 0x7f, Mods: mods})
	})
}

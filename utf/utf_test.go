package utf_test

import (
	"bytes"
	"math"
	"math/rand/v2"
	"slices"
	"testing"
	"unicode/utf8"

	"betony/api"
	"betony/utf"
)

const (
	bad  = api.Bad
	last = 0x10ffff
)

// isRune tells whether there is such a rune.
func isRune(r rune) bool { return r >= 0 && r <= last && (r < 0xd800 || r > 0xdfff) }

// wordsPut is a rune's bytes, in so many bytes, by the numbers of UTF-8's bits.
func wordsPut(r rune) []byte {
	tail := func(shift int) byte { return byte(0x80 + r>>shift%0x40) }
	switch {
	case !isRune(r):
		return []byte{0xef, 0xbf, 0xbd}
	case r < 0x80:
		return []byte{byte(r)}
	case r < 0x800:
		return []byte{byte(0xc0 + r>>6), tail(0)}
	case r < 0x10000:
		return []byte{byte(0xe0 + r>>12), tail(6), tail(0)}
	}
	return []byte{byte(0xf0 + r>>18), tail(12), tail(6), tail(0)}
}

// words are the right forms, and all that begins one and isn't whole.
type words struct {
	runes  map[string]rune
	begins map[string]struct{}
}

// known is made once: of each rune there is.
var known = func() words {
	w := words{map[string]rune{}, map[string]struct{}{}}
	for r := rune(0); r <= last; r++ {
		if !isRune(r) {
			continue
		}
		s := string(wordsPut(r))
		w.runes[s] = r
		for i := 1; i < len(s); i++ {
			w.begins[s[:i]] = struct{}{}
		}
	}
	return w
}()

// first is what stands at the beginning of b (not empty): a rune, how many bytes it has, and whether more of them may come yet.
func (w words) first(b []byte) (r rune, size int, more bool) {
	for i := 1; i <= min(4, len(b)); i++ {
		if r, ok := w.runes[string(b[:i])]; ok {
			return r, i, false
		}
	}
	for i := min(3, len(b)); i > 0; i-- {
		if _, ok := w.begins[string(b[:i])]; ok {
			return bad, i, i == len(b)
		}
	}
	return bad, 1, false
}

// all is the runes of b, and how many of its last bytes wait (of which the last rune is told).
func (w words) all(b []byte) (told []rune, waits int) {
	for len(b) > 0 {
		r, size, more := w.first(b)
		told = append(told, r)
		if more {
			waits = size
		}
		b = b[size:]
	}
	return told, waits
}

// check holds All and a Decoder against the chapter's words.
func check(t *testing.T, b []byte) {
	t.Helper()
	want, _ := known.all(b)
	if got := utf.All(b); !slices.Equal(got, want) {
		t.Fatalf("All(% x) = %x, want %x", b, got, want)
	}
	var d utf.Decoder
	var told []rune
	for i, c := range b {
		got := d.Feed(c)
		told = append(told, got...)
		so, waits := known.all(b[:i+1])
		if waits > 0 {
			so = so[:len(so)-1]
		}
		if len(got) > 2 || !slices.Equal(told, so) || d.Waits() != waits {
			t.Fatalf("% x, byte %d: told %x, %d wait; want %x, %d", b, i, told, d.Waits(), so, waits)
		}
	}
	told = append(told, d.End()...)
	if !slices.Equal(told, want) || d.Waits() != 0 || len(d.End()) != 0 {
		t.Fatalf("% x, at the end: told %x, %d wait; want %x", b, told, d.Waits(), want)
	}
}

// edges are bytes at the bounds of what may stand in a form.
func edges() []byte {
	return []byte{0x00, 0x41, 0x7f, 0x80, 0x8f, 0x90, 0x9f, 0xa0, 0xbf, 0xc0, 0xc1, 0xc2, 0xdf, 0xe0, 0xe1, 0xec, 0xed, 0xee, 0xef, 0xf0, 0xf1, 0xf3, 0xf4, 0xf5, 0xf7, 0xf8, 0xff}
}

// P2.1: All, of bytes whose runes are known.
func TestAll(t *testing.T) {
	for _, x := range []struct {
		b    string
		want []rune
	}{
		{"", nil},
		{"a", []rune{'a'}},
		{"\x00\x1b\x7f", []rune{0, 0x1b, 0x7f}},
		{"\u0080\u07ff\u0800\uffff\U00010000\U0010ffff", []rune{0x80, 0x7ff, 0x800, 0xffff, 0x10000, last}},
		{"\xed\x9f\xbf\xee\x80\x80", []rune{0xd7ff, 0xe000}},
		{"\xef\xbf\xbd", []rune{bad}},
		{"\xef\xbf\xbe\xef\xbb\xbf", []rune{0xfffe, 0xfeff}},
		// The longest beginning is one Bad: ahead of another byte, at the end, ahead of another form.
		{"\xe2\x82\x41", []rune{bad, 'A'}},
		{"\xe2\x82", []rune{bad}},
		{"\xf0\x9f\x98", []rune{bad}},
		{"\xf0\x9f\x98\xf0\x9f", []rune{bad, bad}},
		{"\xe2\xe2\x82\xac", []rune{bad, 0x20ac}},
		{"\xc3\xc3\xa9\xc3", []rune{bad, 0xe9, bad}},
		// A byte that begins none is one Bad.
		{"\x80\xbf", []rune{bad, bad}},
		{"\xff\xfe\xf8\xf5", []rune{bad, bad, bad, bad}},
		{"\xe2\x82\xff", []rune{bad, bad}},
		{"\xe2\x82\xac\x80", []rune{0x20ac, bad}},
		// Not of the shortest form; surrogates; above 10ffff.
		{"\xc0\x80\xc1\xbf", []rune{bad, bad, bad, bad}},
		{"\xe0\x9f\xbf", []rune{bad, bad, bad}},
		{"\xf0\x8f\xbf\xbf", []rune{bad, bad, bad, bad}},
		{"\xed\xa0\x80\xed\xbf\xbf", []rune{bad, bad, bad, bad, bad, bad}},
		{"\xf4\x90\x80\x80", []rune{bad, bad, bad, bad}},
		{"\xf5\x80\x80\x80", []rune{bad, bad, bad, bad}},
	} {
		if got := utf.All([]byte(x.b)); !slices.Equal(got, x.want) {
			t.Errorf("All(%q) = %x, want %x", x.b, got, x.want)
		}
	}
}

// step is a byte for a Decoder (below 0: its end), what it tells, and how many wait then.
type step struct {
	b     int
	want  []rune
	waits int
}

// P2.1: Feed, End and Waits, step by step.
func TestDecoder(t *testing.T) {
	for _, l := range [][]step{
		{{-1, nil, 0}, {-1, nil, 0}},
		{{0, []rune{0}, 0}, {'a', []rune{'a'}, 0}, {-1, nil, 0}},
		{{0xf0, nil, 1}, {0x9f, nil, 2}, {0x98, nil, 3}, {0x80, []rune{0x1f600}, 0}, {-1, nil, 0}},
		{{0xf0, nil, 1}, {0x9f, nil, 2}, {0x98, nil, 3}, {-1, []rune{bad}, 0}, {-1, nil, 0}, {0x80, []rune{bad}, 0}},
		{{0xe2, nil, 1}, {0x82, nil, 2}, {0x41, []rune{bad, 'A'}, 0}},
		{{0xe2, nil, 1}, {0x82, nil, 2}, {0xff, []rune{bad, bad}, 0}},
		{{0xe2, nil, 1}, {0xc3, []rune{bad}, 1}, {0xc3, []rune{bad}, 1}, {0xa9, []rune{0xe9}, 0}},
		{{0xed, nil, 1}, {0xa0, []rune{bad, bad}, 0}, {0x80, []rune{bad}, 0}},
		{{0xf4, nil, 1}, {0x90, []rune{bad, bad}, 0}, {0xf4, nil, 1}, {0x8f, nil, 2}, {0xf4, []rune{bad}, 1}},
		{{0xc2, nil, 1}, {-1, []rune{bad}, 0}, {0xc2, nil, 1}, {0x80, []rune{0x80}, 0}},
	} {
		var d utf.Decoder
		if d.Waits() != 0 {
			t.Fatal("the zero Decoder waits")
		}
		for i, x := range l {
			var got []rune
			if x.b < 0 {
				got = d.End()
			} else {
				got = d.Feed(byte(x.b))
			}
			if !slices.Equal(got, x.want) || d.Waits() != x.waits {
				t.Fatalf("%x: step %d told %x, %d wait", l, i, got, d.Waits())
			}
		}
	}
}

// P2.1: a Decoder with nothing that waits is as a zero one, whatever it was handed.
func TestNothingIsLeft(t *testing.T) {
	for _, b := range []string{"a", "\xff", "\xe2\x82\xac", "\xe2\x82A", "\xf4\x90", "\U0010ffff"} {
		var d utf.Decoder
		for _, c := range []byte(b) {
			d.Feed(c)
		}
		if d != (utf.Decoder{}) {
			t.Errorf("behind %q something is left: %v", b, d)
		}
	}
	var d utf.Decoder
	d.Feed(0xf1)
	d.Feed(0x80)
	d.End()
	if d != (utf.Decoder{}) {
		t.Errorf("behind the end something is left: %v", d)
	}
}

// P2.2: Put, of each rune there is, and P2.3: it is decoded as it was.
func TestPut(t *testing.T) {
	for r := rune(0); r <= last; r++ {
		want := r
		if !isRune(r) {
			want = bad
		}
		got := utf.Put(r)
		if !bytes.Equal(got, wordsPut(r)) {
			t.Fatalf("Put(%x) = % x, want % x", r, got, wordsPut(r))
		}
		if l := utf.All(got); len(l) != 1 || l[0] != want {
			t.Fatalf("All(% x) = %x, want %x", got, l, want)
		}
	}
}

// P2.2: Put, of what is no rune.
func TestPutOfNone(t *testing.T) {
	for _, r := range []rune{-1, -2, -0x41, -last, math.MinInt32, 0xd800, 0xdbff, 0xdc00, 0xdfff, last + 1, 0x1fffff, 0x200041, math.MaxInt32} {
		if got := utf.Put(r); string(got) != "\xef\xbf\xbd" {
			t.Errorf("Put(%x) = % x", r, got)
		}
	}
}

// P2.3: runes that are put one behind the other are told as they were.
func TestPutTogether(t *testing.T) {
	c := rand.New(rand.NewPCG(2, 1))
	for range 2000 {
		var b []byte
		var want []rune
		for range c.IntN(40) {
			r := rune(c.IntN(1 << (1 + c.IntN(21))))
			b = append(b, utf.Put(r)...)
			if !isRune(r) {
				r = bad
			}
			want = append(want, r)
		}
		if got := utf.All(b); !slices.Equal(got, want) {
			t.Fatalf("All(% x) = %x, want %x", b, got, want)
		}
		check(t, b)
	}
}

// P2.1, P2.3: all of one and of two bytes.
func TestAllPairs(t *testing.T) {
	check(t, nil)
	for a := range 256 {
		check(t, []byte{byte(a)})
		for b := range 256 {
			check(t, []byte{byte(a), byte(b)})
		}
	}
}

// P2.1, P2.3: all of three and of four bytes at the bounds, and one behind.
func TestBounds(t *testing.T) {
	l := edges()
	for _, a := range l {
		for _, b := range l {
			for _, c := range l {
				check(t, []byte{a, b, c})
				for i := 0; a >= 0xe0 && i < len(l); i++ {
					check(t, []byte{a, b, c, l[i], 0x80})
				}
			}
		}
	}
}

// P2.1, P2.3: bytes of any kind, in any order.
func TestAnyBytes(t *testing.T) {
	c, l := rand.New(rand.NewPCG(2, 2)), edges()
	for range 20000 {
		b := make([]byte, c.IntN(24))
		for i := range b {
			b[i] = l[c.IntN(len(l))]
			if c.IntN(3) == 0 {
				b[i] = byte(c.IntN(256))
			}
		}
		check(t, b)
	}
}

// P2.1: what is right is told as the library tells it.
func TestRightText(t *testing.T) {
	text := "plain, \u00e9\u0301 \u20ac \u4e2d\u6587 \U0001f600\x00\n\ufffd"
	if !utf8.ValidString(text) || !slices.Equal(utf.All([]byte(text)), []rune(text)) {
		t.Errorf("All(%q) = %x", text, utf.All([]byte(text)))
	}
}

// R4: what is handed in isn't changed nor kept, what lies behind it isn't read, and what is answered may be written over.
func TestMemory(t *testing.T) {
	room := []byte("x\xe2\x82\xac\xac")
	was := slices.Clone(room)
	if got := utf.All(room[1:3]); !slices.Equal(got, []rune{bad}) {
		t.Errorf("what lies behind is read: %x", got)
	}
	var d utf.Decoder
	for _, f := range []func() []rune{
		func() []rune { return utf.All(room[:4]) },
		func() []rune { d.Feed(0xe2); return d.Feed('A') },
		func() []rune { d.Feed(0xe2); return d.End() },
		func() []rune { return d.Feed(0xff) },
	} {
		first := f()
		want := slices.Clone(first)
		first = first[:cap(first)]
		for i := range first {
			first[i] = 77
		}
		if got := f(); !slices.Equal(got, want) {
			t.Errorf("told %x, then %x", want, got)
		}
	}
	put := utf.Put(-1)
	put = put[:cap(put)]
	for i := range put {
		put[i] = 77
	}
	if got := utf.Put(-2); string(got) != "\ufffd" {
		t.Errorf("Put(-2) = % x", got)
	}
	if !bytes.Equal(room, was) {
		t.Errorf("what was handed in is changed: % x", room)
	}
}

// R6: two Decoders have nothing in common, and one that is taken by its value goes on by itself.
func TestDecodersApart(t *testing.T) {
	var a, b utf.Decoder
	a.Feed(0xe2)
	b.Feed(0xc3)
	a.Feed(0x82)
	c := a
	if got := b.Feed(0xa9); !slices.Equal(got, []rune{0xe9}) {
		t.Errorf("told %x", got)
	}
	if got := a.Feed(0xac); !slices.Equal(got, []rune{0x20ac}) || c.Waits() != 2 {
		t.Errorf("told %x, %d wait", got, c.Waits())
	}
	if got := c.Feed(0xad); !slices.Equal(got, []rune{0x20ad}) {
		t.Errorf("told %x", got)
	}
}

// P1, R1: every call ends and none panics, at any argument.
func FuzzAll(f *testing.F) {
	f.Add([]byte("\xe2\x82A"), int32(-1))
	f.Add([]byte("\xf4\x90\xed\xa0\xc0"), int32(0xd800))
	f.Add([]byte{}, int32(math.MaxInt32))
	f.Fuzz(func(t *testing.T, b []byte, r int32) {
		check(t, b)
		if got := utf.Put(r); !bytes.Equal(got, wordsPut(r)) {
			t.Fatalf("Put(%x) = % x", r, got)
		}
	})
}

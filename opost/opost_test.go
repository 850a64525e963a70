package opost_test

import (
	"bytes"
	"math"
	"math/rand/v2"
	"slices"
	"strings"
	"testing"

	"betony/api"
	"betony/opost"
)

// The flags of output, by their numbers in the document.
const (
	post   = 1
	nlcr   = 2
	crnl   = 4
	nocr   = 8
	nlret  = 16
	blanks = 32
	every  = 63
)

// far is the last column that may be handed in.
const far = 1 << 30

// set tells whether flag is among out.
func set(out, flag int) bool {
	for bit := range 64 {
		if 1<<bit == flag {
			return out>>bit&1 == 1
		}
	}
	return false
}

// at is the column that col counts as.
func at(col int) int {
	if 0 <= col && col <= far {
		return col
	}
	return 0
}

// stop is the next column that 8 divides.
func stop(col int) int {
	for col++; col%8 != 0; {
		col++
	}
	return col
}

// goes is the column behind c, that is written as itself.
func goes(col int, c byte) int {
	switch {
	case c == 0x0d, c == 0x08 && col == 0:
		return 0
	case c == 0x08:
		return col - 1
	case c == 0x09:
		return stop(col)
	case c < 0x20, c == 0x7f, c >= 0x80 && c <= 0xbf:
		return col
	}
	return col + 1
}

// line is what is written of a 0a with Opost.
func line(out, col int) (string, int) {
	switch {
	case set(out, nlcr):
		return "\x0d\x0a", 0
	case set(out, nlret):
		return "\x0a", 0
	}
	return "\x0a", col
}

// words is by the words of the chapter what is written of c, and the column behind it.
func words(out, col int, c byte) (string, int) {
	col = at(col)
	if set(out, post) {
		switch {
		case c == 0x0a, c == 0x0d && set(out, crnl):
			return line(out, col)
		case c == 0x0d && col == 0 && set(out, nocr):
			return "", 0
		case c == 0x09 && set(out, blanks):
			return strings.Repeat(" ", stop(col)-col), stop(col)
		}
	}
	return string([]byte{c}), goes(col, c)
}

// wordsAll is by the words what is written of all of s.
func wordsAll(out, col int, s string) (string, int) {
	var all strings.Builder
	col = at(col)
	for i := range len(s) {
		one, next := words(out, col, s[i])
		all.WriteString(one)
		col = next
	}
	return all.String(), col
}

// bounds are numbers at all bounds, on either side.
func bounds() []int {
	return []int{math.MinInt, math.MinInt + 1, -1 << 32, -far - 1, -far, -64, -9, -8, -7, -2, -1, 0, 1, 2, 6, 7, 8, 9, 15, 16, 17, 63, 64, 65, 79, 80, 81, 255, 256, 511, 512, far - 9, far - 8, far - 7, far - 2, far - 1, far, far + 1, far + 7, far + 8, far + 9, 1<<31 - 1, 1 << 31, 1<<32 - 1, 1 << 32, 1<<32 + 8, math.MaxInt - 8, math.MaxInt - 7, math.MaxInt - 1, math.MaxInt}
}

// checkByte holds Byte against the words; no column falls below 0.
func checkByte(t *testing.T, out, col int, c byte) {
	t.Helper()
	got, next := opost.Byte(out, col, c)
	want, behind := words(out, col, c)
	if string(got) != want || next != behind {
		t.Fatalf("Byte(%b, %d, %x) = %q, %d, want %q, %d", out, col, c, got, next, want, behind)
	}
	if next < 0 {
		t.Fatalf("Byte(%b, %d, %x): the column %d", out, col, c, next)
	}
}

// checkBytes holds Bytes against the words; no column falls below 0, and without Opost the bytes stay.
func checkBytes(t *testing.T, out, col int, s string) {
	t.Helper()
	got, next := opost.Bytes(out, col, []byte(s))
	want, behind := wordsAll(out, col, s)
	if string(got) != want || next != behind {
		t.Fatalf("Bytes(%b, %d, %q) = %q, %d, want %q, %d", out, col, s, got, next, want, behind)
	}
	if next < 0 {
		t.Fatalf("Bytes(%b, %d, %q): the column %d", out, col, s, next)
	}
	if !set(out, post) && string(got) != s {
		t.Fatalf("Bytes(%b, %d, %q) = %q, without Opost", out, col, s, got)
	}
}

// The chapter's example.
func TestExample(t *testing.T) {
	b, next := opost.Bytes(api.Opost|api.Onlcr, 0, []byte{0x61, 0x0a})
	if !bytes.Equal(b, []byte{0x61, 0x0d, 0x0a}) || next != 0 {
		t.Errorf("Bytes = %x, %d", b, next)
	}
}

// The flags' numbers are those of the document.
func TestNumbers(t *testing.T) {
	if got := []int{api.Opost, api.Onlcr, api.Ocrnl, api.Onocr, api.Onlret, api.Tabs}; !slices.Equal(got, []int{post, nlcr, crnl, nocr, nlret, blanks}) {
		t.Errorf("the flags are %v", got)
	}
	if api.Far != far {
		t.Errorf("Far = %d", api.Far)
	}
}

// row is what is to be written of in at a column.
type row struct {
	out, col int
	in, want string
	next     int
}

// check holds Bytes, and Byte of a single one, against the row.
func (r row) check(t *testing.T) {
	t.Helper()
	if b, next := opost.Bytes(r.out, r.col, []byte(r.in)); string(b) != r.want || next != r.next {
		t.Errorf("Bytes(%b, %d, %q) = %q, %d, want %q, %d", r.out, r.col, r.in, b, next, r.want, r.next)
	}
	if len(r.in) != 1 {
		return
	}
	if b, next := opost.Byte(r.out, r.col, r.in[0]); string(b) != r.want || next != r.next {
		t.Errorf("Byte(%b, %d, %q) = %q, %d, want %q, %d", r.out, r.col, r.in, b, next, r.want, r.next)
	}
}

// P19.1: of a 0a.
func TestLine(t *testing.T) {
	for _, r := range []row{
		{post, 5, "\n", "\n", 5},
		{post, 0, "\n", "\n", 0},
		{post + nlcr, 5, "\n", "\r\n", 0},
		{post + nlcr, 0, "\n", "\r\n", 0},
		{post + nlret, 5, "\n", "\n", 0},
		{post + nlret, 0, "\n", "\n", 0},
		{post + nlcr + nlret, 5, "\n", "\r\n", 0},
		// Onocr is of a 0d that is written, and not of the one ahead of a 0a.
		{post + nlcr + nocr, 0, "\n", "\r\n", 0},
		{post + nlcr + nocr, 5, "\n\n", "\r\n\r\n", 0},
		// Nothing of a 0a becomes a 0d alone, or a blank.
		{post + crnl, 5, "\n", "\n", 5},
		{post + crnl + nlcr, 5, "\n", "\r\n", 0},
		{post + nocr + blanks, 5, "\n", "\n", 5},
		{post + nlcr, 3, "ab\nc\n\nd", "ab\r\nc\r\n\r\nd", 1},
		{post, 3, "ab\nc\n\nd", "ab\nc\n\nd", 7},
		{post + nlret, 3, "ab\nc\n\nd", "ab\nc\n\nd", 1},
	} {
		r.check(t)
	}
}

// P19.1: of a 0d.
func TestReturn(t *testing.T) {
	for _, r := range []row{
		{post, 5, "\r", "\r", 0},
		{post, 0, "\r", "\r", 0},
		{post + nlcr + nlret + blanks, 5, "\r", "\r", 0},
		{post + nlcr, 5, "\r\n", "\r\r\n", 0},
		// As a 0a, whatever a 0a is.
		{post + crnl, 5, "\r", "\n", 5},
		{post + crnl, 0, "\r", "\n", 0},
		{post + crnl + nlret, 5, "\r", "\n", 0},
		{post + crnl + nlcr, 5, "\r", "\r\n", 0},
		{post + crnl + nlcr + nlret, 5, "\r", "\r\n", 0},
		{post + crnl + nlcr, 5, "\r\n", "\r\n\r\n", 0},
		// Ocrnl stands ahead of Onocr.
		{post + crnl + nocr, 0, "\r", "\n", 0},
		{post + crnl + nocr, 5, "\r", "\n", 5},
		{post + crnl + nocr + nlcr, 0, "\r", "\r\n", 0},
		{post + nocr, 0, "\r", "", 0},
		{post + nocr, 1, "\r", "\r", 0},
		{post + nocr, 5, "\r\r\r", "\r", 0},
		{post + nocr, 0, "\r\ra\r\rb", "a\rb", 1},
		{post + nocr + nlcr, 5, "\n\r", "\r\n", 0},
		{post + nocr + nlret, 5, "\n\r", "\n", 0},
		{post + nocr, 5, "\n\r", "\n\r", 0},
		{post + nocr, 1, "\b\r", "\b", 0},
		{post + nocr, 0, "\x01\x7f\x80\xbf\r", "\x01\x7f\x80\xbf", 0},
	} {
		r.check(t)
	}
}

// P19.1: of a 09.
func TestTab(t *testing.T) {
	for _, r := range []row{
		{post, 0, "\t", "\t", 8},
		{post, 1, "\t", "\t", 8},
		{post, 7, "\t", "\t", 8},
		{post, 8, "\t", "\t", 16},
		{post, 9, "\t\t", "\t\t", 24},
		{post + blanks, 0, "\t", "        ", 8},
		{post + blanks, 1, "\t", "       ", 8},
		{post + blanks, 6, "\t", "  ", 8},
		{post + blanks, 7, "\t", " ", 8},
		{post + blanks, 8, "\t", "        ", 16},
		{post + blanks, 0, "a\tb\t\tc", "a       b               c", 25},
		{post + blanks + nlcr, 3, "a\tb\n\tc", "a    b\r\n        c", 9},
		{post + blanks, 9, "\b\b\t", "\b\b ", 8},
		{post + blanks, 0, "\t\b\t", "        \b ", 8},
		// Of a rune of several bytes the first one alone takes a column.
		{post + blanks, 0, "\xe2\x82\xac\t", "\xe2\x82\xac       ", 8},
		{post + nlcr + crnl + nocr + nlret, 3, "\t", "\t", 8},
	} {
		r.check(t)
	}
}

// P19.1, P19.2: of an 08 the column is one less, and never below 0.
func TestBack(t *testing.T) {
	for _, r := range []row{
		{post, 5, "\b", "\b", 4},
		{post, 1, "\b", "\b", 0},
		{post, 0, "\b", "\b", 0},
		{post, 2, "\b\b\b\bx", "\b\b\b\bx", 1},
		{every, 2, "\b \b", "\b \b", 1},
		{0, 0, "\b", "\b", 0},
		{0, 2, "\b\b\b\bx", "\b\b\b\bx", 1},
		{post, far, "\b", "\b", far - 1},
	} {
		r.check(t)
	}
}

// P19.1: of any other byte, with Opost and without.
func TestOthers(t *testing.T) {
	for _, out := range []int{post, every, every - post, 0} {
		for _, r := range []row{
			{out, 5, "\x00", "\x00", 5},
			{out, 5, "\x07", "\x07", 5},
			{out, 5, "\x0b", "\x0b", 5},
			{out, 5, "\x0c", "\x0c", 5},
			{out, 5, "\x0e", "\x0e", 5},
			{out, 5, "\x1b", "\x1b", 5},
			{out, 5, "\x1f", "\x1f", 5},
			{out, 5, " ", " ", 6},
			{out, 5, "~", "~", 6},
			{out, 5, "\x7f", "\x7f", 5},
			{out, 5, "\x80", "\x80", 5},
			{out, 5, "\xbf", "\xbf", 5},
			{out, 5, "\xc0", "\xc0", 6},
			{out, 5, "\xff", "\xff", 6},
			{out, 5, "a\xc3\xa9\xf0\x9f\x98\x80z", "a\xc3\xa9\xf0\x9f\x98\x80z", 9},
			{out, 5, "\x1b[1m", "\x1b[1m", 8},
		} {
			r.check(t)
		}
	}
}

// P19.1, P19.2: without Opost each byte is itself, whatever the other flags, and the column goes on as with Opost alone.
func TestNoPost(t *testing.T) {
	const text = "ab\ncd\r\re\tf\b\b\n\rg\th"
	_, next := opost.Bytes(post, 3, []byte(text))
	for out := 0; out <= every; out += 2 {
		row{out, 3, text, text, next}.check(t)
		row{out, 5, "\n", "\n", 5}.check(t)
		row{out, 5, "\r", "\r", 0}.check(t)
		row{out, 0, "\r", "\r", 0}.check(t)
		row{out, 5, "\t", "\t", 8}.check(t)
		row{out, 5, "\b", "\b", 4}.check(t)
	}
}

// P19.1: a column below 0, or above 2^30, is 0; also of no bytes.
func TestColumns(t *testing.T) {
	for _, col := range bounds() {
		is := 0
		if col >= 0 && col <= far {
			is = col
		}
		for _, r := range []row{
			{post, col, "", "", is},
			{0, col, "", "", is},
			{post, col, "x", "x", is + 1},
			{0, col, "x", "x", is + 1},
			{post, col, "\n", "\n", is},
			{post, col, "\r", "\r", 0},
			{post, col, "\b", "\b", max(is-1, 0)},
			{post, col, "\x7f", "\x7f", is},
			{post, col, "\t", "\t", is/8*8 + 8},
			{post + blanks, col, "\t", "        "[:8-is%8], is/8*8 + 8},
		} {
			r.check(t)
		}
		for c := range 256 {
			for _, out := range []int{0, post, post + nocr, post + nlret, post + blanks, every} {
				checkByte(t, out, col, byte(c))
			}
		}
	}
}

// P19.1: Bytes of several is Byte, one behind the other: what comes behind a column above 2^30 begins at 0.
func TestFar(t *testing.T) {
	for _, r := range []row{
		{post, far, "x", "x", far + 1},
		{post, far, "xx", "xx", 1},
		{post, far, "xxx", "xxx", 2},
		{post, far - 1, "xx", "xx", far + 1},
		{post, far - 1, "xxx", "xxx", 1},
		{post, far - 1, "\t", "\t", far},
		{post, far, "\t", "\t", far + 8},
		{post, far, "\t\t", "\t\t", 8},
		{post, far, "x\b", "x\b", 0},
		{post, far, "x\n", "x\n", 0},
		{post + nocr, far, "x\r", "x", 0},
		{post + blanks, far - 1, "xx\t", "xx        ", 8},
		{0, far, "xx", "xx", 1},
	} {
		r.check(t)
	}
}

// P19.1: each byte, with all flags, at the columns up to the third stop.
func TestEachByte(t *testing.T) {
	for out := range 2 * (every + 1) {
		for col := -1; col <= 24; col++ {
			for c := range 256 {
				checkByte(t, out, col, byte(c))
			}
		}
	}
}

// P19.1, R1: of a flags' number each flag's bit alone counts.
func TestFlags(t *testing.T) {
	for _, out := range bounds() {
		for c := range 256 {
			for _, col := range []int{0, 3, 8} {
				checkByte(t, out, col, byte(c))
			}
		}
		for flags := range every + 1 {
			of := out &^ every
			for _, s := range []string{"\n", "\r", "\t", "a\r\rb\n\tc\b"} {
				b, next := opost.Bytes(of|flags, 3, []byte(s))
				if want, behind := opost.Bytes(flags, 3, []byte(s)); !bytes.Equal(b, want) || next != behind {
					t.Fatalf("Bytes(%b, 3, %q) = %q, %d, want %q, %d", of|flags, s, b, next, want, behind)
				}
			}
		}
	}
}

// P19.1: all rows of up to three bytes of each kind, with all flags.
func TestRows(t *testing.T) {
	const kinds = "\n\r\t\b\x07\x7f\x9fa\xe1"
	for out := range every + 1 {
		for _, col := range []int{0, 1, 7} {
			for _, a := range []byte(kinds) {
				for _, b := range []byte(kinds) {
					for _, c := range []byte(kinds) {
						checkBytes(t, out, col, string([]byte{a, b, c}))
					}
				}
			}
		}
	}
}

// anyText is a text in which each kind of byte is often.
func anyText(c *rand.Rand) string {
	const often = "\n\r\t\b\n\r\t\babc \x1b\x7f\x80\xbf\xc3\xa9"
	b := make([]byte, c.IntN(60))
	for i := range b {
		b[i] = byte(c.IntN(256))
		if c.IntN(4) > 0 {
			b[i] = often[c.IntN(len(often))]
		}
	}
	return string(b)
}

// anyOf is a number of l, or one below most.
func anyOf(c *rand.Rand, l []int, most int) int {
	if c.IntN(5) == 0 {
		return l[c.IntN(len(l))]
	}
	return c.IntN(most)
}

// P19.1, P19.2, P1: any texts, with any flags, at any columns.
func TestAny(t *testing.T) {
	c := rand.New(rand.NewPCG(19, 1))
	for range 40000 {
		checkBytes(t, anyOf(c, bounds(), 64), anyOf(c, bounds(), 100), anyText(c))
	}
}

// P19.1: what is written in two pieces is what is written in one.
func TestPieces(t *testing.T) {
	c := rand.New(rand.NewPCG(19, 2))
	for range 5000 {
		out, col, s := anyOf(c, bounds(), 64), anyOf(c, bounds(), 100), anyText(c)
		all, end := opost.Bytes(out, col, []byte(s))
		at := c.IntN(len(s) + 1)
		first, next := opost.Bytes(out, col, []byte(s[:at]))
		rest, last := opost.Bytes(out, next, []byte(s[at:]))
		if string(first)+string(rest) != string(all) || last != end && end <= far {
			t.Fatalf("%b, %d, %q at %d: %q and %q, %d, of all %q, %d", out, col, s, at, first, rest, last, all, end)
		}
	}
}

// P1: a long text, and one of nothing.
func TestLong(t *testing.T) {
	checkBytes(t, every, 0, strings.Repeat("ab\tc\n\r\r", 20000))
	checkBytes(t, post, 0, strings.Repeat("x", 100000))
	checkBytes(t, post+blanks, 0, strings.Repeat("\t", 100000))
	for _, s := range [][]byte{nil, {}} {
		if b, next := opost.Bytes(every, 7, s); len(b) != 0 || next != 7 {
			t.Errorf("Bytes of nothing = %q, %d", b, next)
		}
	}
}

// R4: what is handed in stays, also behind its length; what is answered is by itself.
func TestMemory(t *testing.T) {
	for _, out := range []int{0, post, every} {
		const text, behind = "a\r\tb\n", "kept"
		all := []byte(text + behind)
		s := all[:len(text)]
		b, _ := opost.Bytes(out, 0, s)
		want := string(b)
		if string(all) != text+behind {
			t.Fatalf("with %b %q became %q", out, text+behind, all)
		}
		copy(s, "zzzzz")
		if string(b) != want {
			t.Fatalf("with %b the answer hangs on what was handed in", out)
		}
		for i := range b {
			b[i] = '#'
		}
		b = append(b, "####"...)
		if string(all) != "zzzzz"+behind {
			t.Fatalf("with %b what was handed in hangs on the answer: %q", out, all)
		}
		copy(s, text)
		if b, _ = opost.Bytes(out, 0, s); string(b) != want {
			t.Fatalf("with %b the next answer is %q, want %q", out, b, want)
		}
	}
}

// R4: what Byte answers is by itself.
func TestByteMemory(t *testing.T) {
	for c := range 256 {
		for _, out := range []int{0, post, every} {
			b, _ := opost.Byte(out, 3, byte(c))
			for i := range b {
				b[i] = '#'
			}
			_ = append(b, '#')
			checkByte(t, out, 3, byte(c))
		}
	}
}

// R6: the same call has the same answer, whatever was called between.
func TestOneAnswer(t *testing.T) {
	c := rand.New(rand.NewPCG(19, 3))
	for range 2000 {
		out, col, s := anyOf(c, bounds(), 64), anyOf(c, bounds(), 100), anyText(c)
		b, next := opost.Bytes(out, col, []byte(s))
		opost.Bytes(c.IntN(64), c.IntN(100), []byte(anyText(c)))
		if again, behind := opost.Bytes(out, col, []byte(s)); !bytes.Equal(b, again) || next != behind {
			t.Fatalf("Bytes(%b, %d, %q) = %q, %d, and then %q, %d", out, col, s, b, next, again, behind)
		}
	}
}

func FuzzAll(f *testing.F) {
	f.Add(3, 0, "a\n")
	f.Add(1+4+8, 0, "\r\ra\r")
	f.Add(1+16+32, 7, "\t\b\tx\n")
	f.Add(0, -1, "\b\r\n\t\xe2\x82\xac")
	f.Add(math.MinInt, math.MaxInt, "")
	f.Fuzz(func(t *testing.T, out, col int, s string) {
		checkBytes(t, out, col, s)
		for i := range len(s) {
			checkByte(t, out, col, s[i])
		}
	})
}

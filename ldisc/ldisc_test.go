package ldisc_test

import (
	"bytes"
	"math"
	"math/rand/v2"
	"slices"
	"strings"
	"testing"

	"betony/api"
	"betony/ldisc"
	"betony/termios"
)

// The flags of settings, by their numbers in the document.
const (
	istrip, igncr, icrnl, inlcr, ixon, ixany, imaxbel               = 1, 2, 4, 8, 16, 32, 64
	icanon, echo, echoe, echok, echonl, echoctl, isig, noflsh, exts = 1, 2, 4, 8, 16, 32, 64, 128, 512
)

// The places of special characters, by their numbers in the document.
const (
	vintr = iota
	vquit
	vsusp
	veof
	veol
	verase
	vkill
	vwerase
	vreprint
	vlnext
	vstart
	vstop
	places
)

// What the chapter says the bounds are.
const (
	mostLine  = 255
	mostInput = 1024
)

// words is a discipline by the words of the chapter.
type words struct {
	t       api.Termios
	line    string
	lines   []string // those that are ready; of the one with an end of file: nothing
	raw     string   // what is ready without Icanon
	stopped bool
	waits   bool
}

func (w *words) in(flag int) bool    { return w.t.In/flag%2 == 1 }
func (w *words) local(flag int) bool { return w.t.Local/flag%2 == 1 }

// special tells whether c is the special character of that place.
func (w *words) special(place int, c byte) bool { return w.t.Cc[place] > 0 && w.t.Cc[place] == int(c) }

// look is the picture of c.
func (w *words) look(c byte) string {
	if !w.local(echoctl) || c == 0x09 || c == 0x0a || c >= 0x20 && c != 0x7f {
		return string([]byte{c})
	}
	if c == 0x7f {
		return "^?"
	}
	return "^" + string([]byte{c + 0x40})
}

// shown is what is shown of c.
func (w *words) shown(c byte) string {
	if w.local(echo) {
		return w.look(c)
	}
	return ""
}

// back takes the last n bytes back; it tells what is shown.
func (w *words) back(n int) string {
	var out strings.Builder
	for ; n > 0; n-- {
		last := w.line[len(w.line)-1]
		w.line = w.line[:len(w.line)-1]
		if w.local(echo) && w.local(echoe) {
			out.WriteString(strings.Repeat("\x08\x20\x08", len(w.look(last))))
		}
	}
	return out.String()
}

// bell is what is shown of what is lost.
func (w *words) bell() string {
	if w.in(imaxbel) {
		return "\x07"
	}
	return ""
}

// put is rule 8.
func (w *words) put(c byte) (string, bool) {
	ending := c == 0x0a || w.special(veol, c)
	switch {
	case w.local(icanon) && (len(w.line) < mostLine-1 || ending && len(w.line) < mostLine):
		w.line += string([]byte{c})
	case !w.local(icanon) && len(w.raw) < mostInput:
		w.raw += string([]byte{c})
	default:
		return w.bell(), false
	}
	if c == 0x0a && (w.local(echo) || w.local(echonl) && w.local(icanon)) {
		return "\x0a", true
	}
	return w.shown(c), true
}

// over makes the line ready, or lost.
func (w *words) over() string {
	line := w.line
	w.line = ""
	if w.count()+len(line) > mostInput {
		return w.bell()
	}
	w.lines = append(w.lines, line)
	return ""
}

// count is how many bytes are ready.
func (w *words) count() int {
	n := len(w.raw)
	for _, l := range w.lines {
		n += len(l)
	}
	return n
}

// comes is what layer 17 tells of c.
func (w *words) comes(c byte) (byte, bool) {
	switch {
	case c == 0x0d && w.in(igncr):
		return 0, false
	case c == 0x0d && w.in(icrnl):
		return 0x0a, true
	case c == 0x0a && w.in(inlcr):
		return 0x0d, true
	}
	return c, true
}

// Input is rules 1 to 4.
func (w *words) Input(c byte) (string, int) {
	if w.in(istrip) {
		c %= 0x80
	}
	if w.waits {
		w.waits = false
		out, _ := w.put(c)
		return out, 0
	}
	c, some := w.comes(c)
	if !some {
		return "", 0
	}
	if w.in(ixon) {
		if w.special(vstop, c) || w.special(vstart, c) {
			w.stopped = w.special(vstop, c)
			return "", 0
		}
		w.stopped = w.stopped && !w.in(ixany)
	}
	if w.local(isig) {
		for i, place := range []int{vintr, vquit, vsusp} {
			if w.special(place, c) {
				if !w.local(noflsh) {
					w.line, w.lines, w.raw, w.stopped = "", nil, "", false
				}
				return w.shown(c), i + 1
			}
		}
	}
	return w.edit(c), 0
}

// edit is rules 5 to 7.
func (w *words) edit(c byte) string {
	if !w.local(icanon) {
		out, _ := w.put(c)
		return out
	}
	if w.local(exts) {
		if w.special(vlnext, c) {
			w.waits = true
			if w.local(echo) {
				return "^\x08"
			}
			return ""
		}
		if w.special(vwerase, c) {
			left := strings.TrimRight(w.line, " \t")
			left = left[:1+strings.LastIndexAny(left, " \t")]
			return w.back(len(w.line) - len(left))
		}
		if w.special(vreprint, c) {
			out := w.shown(c)
			if w.local(echo) {
				out += "\x0a"
			}
			for i := range len(w.line) {
				out += w.shown(w.line[i])
			}
			return out
		}
	}
	return w.ends(c)
}

// ends is rule 7.
func (w *words) ends(c byte) string {
	instead := ""
	if !w.local(echoe) {
		instead = w.shown(c)
	}
	switch {
	case w.special(verase, c):
		return w.back(min(1, len(w.line))) + instead
	case w.special(vkill, c):
		out := w.back(len(w.line)) + instead
		if w.local(echok) && w.local(echo) {
			out += "\x0a"
		}
		return out
	case w.special(veof, c):
		return w.over()
	}
	out, ok := w.put(c)
	if ok && (c == 0x0a || w.special(veol, c)) {
		out += w.over()
	}
	return out
}

// Read is what Read answers.
func (w *words) Read(n int) (string, bool) {
	if n < 1 {
		return "", false
	}
	if !w.local(icanon) {
		n = min(n, len(w.raw))
		b := w.raw[:n]
		w.raw = w.raw[n:]
		return b, false
	}
	if len(w.lines) == 0 {
		return "", false
	}
	first := w.lines[0]
	if first == "" {
		w.lines = w.lines[1:]
		return "", true
	}
	n = min(n, len(first))
	w.lines[0] = first[n:]
	if w.lines[0] == "" {
		w.lines = w.lines[1:]
	}
	return first[:n], false
}

// right tells whether t is right.
func right(t api.Termios) bool {
	for _, c := range t.Cc {
		if c < 0 || c > 255 {
			return false
		}
	}
	return t.In >= 0 && t.In <= 127 && t.Out >= 0 && t.Out <= 63 && t.Local >= 0 && t.Local <= 1023 && t.Min >= 0 && t.Min <= 255 && t.Time >= 0 && t.Time <= 255
}

// Set is what Set answers.
func (w *words) Set(t api.Termios) bool {
	if !right(t) {
		return false
	}
	was := w.local(icanon)
	w.t = t
	all := strings.Join(w.lines, "") + w.raw + w.line
	switch {
	case was && !w.local(icanon):
		w.line, w.lines, w.raw = "", nil, all
	case !was && w.local(icanon):
		w.line, w.lines, w.raw = all[:min(len(all), mostLine-1)], nil, ""
	}
	return true
}

// Flush is what Flush does.
func (w *words) Flush() { w.line, w.lines, w.raw = "", nil, "" }

// both is a discipline beside the words.
type both struct {
	t *testing.T
	d *ldisc.Disc
	w words
}

// start begins both with the setting s.
func start(t *testing.T, s api.Termios) *both {
	t.Helper()
	d := ldisc.New(s)
	if d == nil {
		t.Fatalf("New(%v) = nil", s)
	}
	return &both{t, d, words{t: s}}
}

// state holds what can be asked against the words.
func (b *both) state() {
	b.t.Helper()
	if got := b.d.Setting(); got != b.w.t {
		b.t.Fatalf("Setting = %v, want %v", got, b.w.t)
	}
	if got := b.d.Line(); string(got) != b.w.line {
		b.t.Fatalf("%v: Line = %q, want %q", b.w.t, got, b.w.line)
	}
	if got := b.d.Ready(); got != b.w.count() {
		b.t.Fatalf("%v: Ready = %d, want %d", b.w.t, got, b.w.count())
	}
	if got := b.d.Stopped(); got != b.w.stopped {
		b.t.Fatalf("%v: Stopped = %v", b.w.t, got)
	}
}

// input lets the bytes of text come to both.
func (b *both) input(text string) {
	b.t.Helper()
	for i := range len(text) {
		got, sig := b.d.Input(text[i])
		if want, wantSig := b.w.Input(text[i]); string(got) != want || sig != wantSig {
			b.t.Fatalf("%v: Input(%x) = %q, %d, want %q, %d", b.w.t, text[i], got, sig, want, wantSig)
		}
		b.state()
	}
}

// read reads n bytes of both.
func (b *both) read(n int) {
	b.t.Helper()
	got, end := b.d.Read(n)
	if want, wantEnd := b.w.Read(n); string(got) != want || end != wantEnd {
		b.t.Fatalf("%v: Read(%d) = %q, %v, want %q, %v", b.w.t, n, got, end, want, wantEnd)
	}
	b.state()
}

// set sets both.
func (b *both) set(s api.Termios) {
	b.t.Helper()
	if got, want := b.d.Set(s), b.w.Set(s); got != want {
		b.t.Fatalf("Set(%v) = %v", s, got)
	}
	b.state()
}

// flush flushes both.
func (b *both) flush() {
	b.t.Helper()
	b.d.Flush()
	b.w.Flush()
	b.state()
}

// drain reads all that is ready.
func (b *both) drain() {
	b.t.Helper()
	for range len(b.w.lines) + 2 {
		b.read(5000)
	}
}

// with is the plain setting with other flags of input and local ones.
func with(in, local int) api.Termios {
	s := termios.Plain()
	s.In, s.Local = in, local
	return s
}

// feed lets the bytes of text come to d; it answers all that is shown, and the signals.
func feed(d *ldisc.Disc, text string) (string, []int) {
	var out []byte
	var sigs []int
	for i := range len(text) {
		e, sig := d.Input(text[i])
		out = append(out, e...)
		if sig != 0 {
			sigs = append(sigs, sig)
		}
	}
	return string(out), sigs
}

// all are all lines that are ready, and are read by that; of an end of file: "!".
func all(d *ldisc.Disc) []string {
	var l []string
	for {
		b, end := d.Read(5000)
		switch {
		case end:
			l = append(l, "!"+string(b))
		case len(b) > 0:
			l = append(l, string(b))
		default:
			return l
		}
	}
}

// row is what is to come of some input.
type row struct {
	name  string
	set   api.Termios
	in    string
	shown string
	sigs  []int
	line  string
	read  []string // "!": an end of file
}

// check holds the row against a new discipline.
func (r row) check(t *testing.T) {
	t.Helper()
	d := ldisc.New(r.set)
	if d == nil {
		t.Fatalf("%s: New = nil", r.name)
	}
	shown, sigs := feed(d, r.in)
	if shown != r.shown || !slices.Equal(sigs, r.sigs) {
		t.Errorf("%s: %q shows %q, %v, want %q, %v", r.name, r.in, shown, sigs, r.shown, r.sigs)
	}
	if got := d.Line(); string(got) != r.line {
		t.Errorf("%s: %q: the line is %q, want %q", r.name, r.in, got, r.line)
	}
	if got, want := d.Ready(), len(strings.ReplaceAll(strings.Join(r.read, ""), "!", "")); got != want {
		t.Errorf("%s: %q: Ready = %d, want %d", r.name, r.in, got, want)
	}
	if got := all(d); !slices.Equal(got, r.read) {
		t.Errorf("%s: %q: read are %q, want %q", r.name, r.in, got, r.read)
	}
	b := start(t, r.set)
	b.input(r.in)
	b.drain()
}

// The chapter's example.
func TestExample(t *testing.T) {
	row{"the example", termios.Plain(), "ab\x7fc\r", "ab\x08\x20\x08c\n", nil, "", []string{"ac\n"}}.check(t)
}

// P18.1, P18.2: what the plain setting makes of ordinary bytes.
func TestPlain(t *testing.T) {
	plain := termios.Plain()
	for _, r := range []row{
		{"nothing", plain, "", "", nil, "", nil},
		{"a line that isn't ready", plain, "abc", "abc", nil, "abc", nil},
		{"0a", plain, "ab\n", "ab\n", nil, "", []string{"ab\n"}},
		{"an empty line", plain, "\r", "\n", nil, "", []string{"\n"}},
		{"two lines", plain, "ab\rc\rd", "ab\nc\nd", nil, "d", []string{"ab\n", "c\n"}},
		{"a control", plain, "a\x01\x00\x1f", "a^A^@^_", nil, "a\x01\x00\x1f", nil},
		{"a tab", plain, "\t", "\t", nil, "\t", nil},
		{"bytes above 7f", plain, "\x80\xff", "\x80\xff", nil, "\x80\xff", nil},
		{"a control is taken back", plain, "a\x01\x7f", "a^A\b \b\b \b", nil, "a", nil},
		{"nothing is taken back", plain, "\x7f\x7f", "", nil, "", nil},
		{"more is taken back than there is", plain, "a\x7f\x7fb", "a\b \bb", nil, "b", nil},
		{"no byte of a ready line is taken back", plain, "a\r\x7f\x7f", "a\n", nil, "", []string{"a\n"}},
		{"the end of a line", plain, "ab\x04", "ab", nil, "", []string{"ab"}},
		{"the end of the file", plain, "\x04", "", nil, "", []string{"!"}},
		{"both", plain, "ab\x04\x04c\n\x04\x04", "abc\n", nil, "", []string{"ab", "!", "c\n", "!", "!"}},
		{"a word", plain, "one two\x17", "one two\b \b\b \b\b \b", nil, "one ", nil},
		{"a word and blanks", plain, "one two \t \x17", "one two \t " + strings.Repeat("\b \b", 6), nil, "one ", nil},
		{"the only word", plain, "one\x17", "one\b \b\b \b\b \b", nil, "", nil},
		{"blanks alone", plain, " \t\x17", " \t\b \b\b \b", nil, "", nil},
		{"a word of controls", plain, "a \x01b\x17", "a ^Ab\b \b\b \b\b \b", nil, "a ", nil},
		{"no word", plain, "\x17", "", nil, "", nil},
		{"two words", plain, "a b c\x17\x17", "a b c\b \b\b \b\b \b", nil, "a ", nil},
		{"the line is taken back", plain, "a\x01\x15", "a^A\b \b\b \b\b \b\n", nil, "", nil},
		{"the empty line is taken back", plain, "\x15", "\n", nil, "", nil},
		{"once more", plain, "a\x01\x12b", "a^A^R\na^Ab", nil, "a\x01b", nil},
		{"the empty line once more", plain, "\x12", "^R\n", nil, "", nil},
		{"a special one is put", plain, "\x16\x7f\x16\x03\x16\x16", "^\b^?^\b^C^\b^V", nil, "\x7f\x03\x16", nil},
		{"0d is put", plain, "\x16\r", "^\b^M", nil, "\r", nil},
		{"0a is put, and the line isn't ready", plain, "a\x16\nb", "a^\b\nb", nil, "a\nb", nil},
		{"a 0a that was put is taken back", plain, "a\x16\n\x7f", "a^\b\n\b \b", nil, "a", nil},
		{"a line with a 0a within", plain, "a\x16\nb\n", "a^\b\nb\n", nil, "", []string{"a\nb\n"}},
		{"what stops is put", plain, "\x16\x13\x16\x11", "^\b^S^\b^Q", nil, "\x13\x11", nil},
		{"signals", plain, "a\x03b\x1cc\x1ad", "a^Cb^\\c^Zd", []int{1, 2, 3}, "d", nil},
		{"a signal makes what is ready go", plain, "a\rb\x04\x04c\x03", "a\nbc^C", []int{1}, "", nil},
		{"Vstop, Vstart", plain, "a\x13b\x11c", "abc", nil, "abc", nil},
	} {
		r.check(t)
	}
}

// P18.1: what each flag does.
func TestFlags(t *testing.T) {
	const base = icanon | echo | echoe | echok | echoctl | isig | exts
	const in = icrnl | ixon | imaxbel
	for _, r := range []row{
		{"Istrip", with(in|istrip, base), "\xe1\x81\x8d", "a^A\n", nil, "", []string{"a\x01\n"}},
		{"Istrip of a special one", with(in|istrip, base), "a\xff", "a\b \b", nil, "", nil},
		{"Istrip behind Vlnext", with(in|istrip, base), "\x96\xff\x16\x83", "^\b^?^\b^C", nil, "\x7f\x03", nil},
		{"no Istrip", with(in, base), "a\x83\x84\x8a", "a\x83\x84\x8a", nil, "a\x83\x84\x8a", nil},
		{"Igncr", with(in|igncr, base), "a\rb\n", "ab\n", nil, "", []string{"ab\n"}},
		{"Igncr behind Vlnext", with(in|igncr, base), "\x16\r\r", "^\b^M", nil, "\r", nil},
		{"no Icrnl", with(ixon, base), "a\r\n", "a^M\n", nil, "", []string{"a\r\n"}},
		{"Inlcr", with(in|inlcr, base), "a\nb\r", "a^Mb\n", nil, "", []string{"a\rb\n"}},
		{"Inlcr behind Vlnext", with(in|inlcr, base), "\x16\n", "^\b\n", nil, "\n", nil},
		{"no Ixon", with(icrnl, base), "\x13\x11", "^S^Q", nil, "\x13\x11", nil},
		{"no Isig", with(in, base-isig), "\x03\x1c\x1a", "^C^\\^Z", nil, "\x03\x1c\x1a", nil},
		{"Noflsh", with(in, base|noflsh), "a\nb\x03c\x1c\x1a", "a\nb^Cc^\\^Z", []int{1, 2, 3}, "bc", []string{"a\n"}},
		{"no Iexten", with(in, base-exts), "a \x16\x17\x12", "a ^V^W^R", nil, "a \x16\x17\x12", nil},
		{"no Echo", with(in, base-echo), "a b\x01\x7f\x16\x03\x17\x12c\x15\x03d\n", "", []int{1}, "", []string{"d\n"}},
		{"Echonl", with(in, base-echo|echonl), "a\r\x16\nb\x15\x12", "\n\n", nil, "", []string{"a\n"}},
		{"Echonl and Echo", with(in, base|echonl), "a\r", "a\n", nil, "", []string{"a\n"}},
		{"no Echoe", with(in, base-echoe), "ab\x7fc d\x17\x15", "ab^?c d^U\n", nil, "", nil},
		{"no Echoe, nothing to take back", with(in, base-echoe), "\x7f\x17\x15", "^?^U\n", nil, "", nil},
		{"no Echo and no Echoe", with(in, base-echo-echoe), "ab\x7f", "", nil, "a", nil},
		{"no Echok", with(in, base-echok), "ab\x15", "ab\b \b\b \b", nil, "", nil},
		{"no Echok, no Echoe", with(in, base-echok-echoe), "ab\x15", "ab^U", nil, "", nil},
		{"no Echoctl", with(in, base-echoctl), "a\x01\x7f\x16\x7f\x12\x03", "a\x01\b \b^\b\x7f\x12\na\x7f\x03", []int{1}, "", nil},
		{"no Echoctl, no Echoe", with(in, base-echoctl-echoe), "a\x7f\x15", "a\x7f\x15\n", nil, "", nil},
	} {
		r.check(t)
	}
}

// P18.1, P18.2: without Icanon bytes are ready at once, and nothing is edited.
func TestNoCanon(t *testing.T) {
	const base = echo | echoe | echok | echoctl | isig | exts
	const in = icrnl | ixon | imaxbel
	for _, r := range []row{
		{"all others", with(in, base), "a\x7f\x15\x17\x12\x16\x04\r", "a^?^U^W^R^V^D\n", nil, "", []string{"a\x7f\x15\x17\x12\x16\x04\n"}},
		{"the raw one", termios.Raw(termios.Plain()), "a\x03\x13\x04\r\n\xff", "", nil, "", []string{"a\x03\x13\x04\r\n\xff"}},
		{"Echonl", with(in, base-echo|echonl), "a\r", "", nil, "", []string{"a\n"}},
		{"a signal", with(in, base), "ab\x03c\x1a\x1cd", "ab^Cc^Z^\\d", []int{1, 3, 2}, "", []string{"d"}},
		{"a signal with Noflsh", with(in, base|noflsh), "ab\x03c", "ab^Cc", []int{1}, "", []string{"abc"}},
		{"Vstop, Vstart", with(in, base), "a\x13b\x11", "ab", nil, "", []string{"ab"}},
	} {
		r.check(t)
	}
}

// P18.1: a byte's picture, each byte, with and without Echoctl; it is shown when it is put, shown once more, and taken back.
func TestPicture(t *testing.T) {
	for _, local := range []int{icanon | echo | echoe | exts, icanon | echo | echoe | exts | echoctl} {
		for c := range 256 {
			var s api.Termios
			s.Local = local
			s.Cc[vlnext], s.Cc[verase], s.Cc[vreprint] = 0xf1, 0xf2, 0xf3
			w := words{t: s}
			look := w.look(byte(c))
			d := ldisc.New(s)
			if got, _ := feed(d, "\xf1"+string([]byte{byte(c)})); got != "^\b"+look {
				t.Errorf("local %d: %x is shown as %q", local, c, got)
			}
			if got, _ := feed(d, "\xf3"); got != "\xf3\n"+look {
				t.Errorf("local %d: %x is shown once more as %q", local, c, got)
			}
			if got, _ := feed(d, "\xf2"); got != strings.Repeat("\b \b", len(look)) || len(d.Line()) != 0 {
				t.Errorf("local %d: %x is taken back by %q", local, c, got)
			}
		}
	}
	for c, want := range map[byte]string{0: "^@", 1: "^A", 9: "\t", 10: "\n", 13: "^M", 0x1a: "^Z", 0x1b: "^[", 0x1c: "^\\", 0x1d: "^]", 0x1e: "^^", 0x1f: "^_", 0x20: " ", 'A': "A", 0x7e: "~", 0x7f: "^?", 0x80: "\x80", 0xff: "\xff"} {
		d := ldisc.New(api.Termios{Local: echo | echoctl})
		if got, _ := d.Input(c); string(got) != want {
			t.Errorf("%x is shown as %q, want %q", c, got, want)
		}
	}
}

// P18.1: a byte is taken back by its picture of now, not by the one that was shown.
func TestPictureChanges(t *testing.T) {
	d := ldisc.New(termios.Plain())
	feed(d, "\x01\x01")
	s := termios.Plain()
	s.Local -= echoctl
	d.Set(s)
	if got, _ := d.Input(0x7f); string(got) != "\b \b" {
		t.Errorf("without Echoctl a 01 is taken back by %q", got)
	}
	d.Set(termios.Plain())
	if got, _ := d.Input(0x7f); string(got) != "\b \b\b \b" {
		t.Errorf("with Echoctl a 01 is taken back by %q", got)
	}
}

// P18.1, P18.2: what stops the output, and what goes on with it.
func TestStopped(t *testing.T) {
	const stop, goOn = "\x13", "\x11"
	same := with(ixon, icanon|echo)
	same.Cc[vstart] = 0x13
	quiet := with(ixon|ixany|igncr, icanon|echo|isig|noflsh)
	quiet.Cc[vstop] = 0x0d
	for _, x := range []struct {
		name string
		set  api.Termios
		in   string
		want bool
	}{
		{"at first", termios.Plain(), "", false},
		{"Vstop", termios.Plain(), stop, true},
		{"Vstop twice", termios.Plain(), stop + stop, true},
		{"Vstart", termios.Plain(), stop + goOn, false},
		{"Vstart alone", termios.Plain(), goOn, false},
		{"another byte", termios.Plain(), stop + "a\r\x04\x7f", true},
		{"a signal", termios.Plain(), stop + "\x03", false},
		{"Vquit", termios.Plain(), stop + "\x1c", false},
		{"Vsusp", termios.Plain(), stop + "\x1a", false},
		{"a signal with Noflsh", with(ixon, icanon|isig|noflsh), stop + "\x03", true},
		{"a signal with Noflsh, Ixany", with(ixon|ixany, icanon|isig|noflsh), stop + "\x03", false},
		{"Ixany", with(ixon|ixany, icanon), stop + "a", false},
		{"Ixany and Vstop", with(ixon|ixany, icanon), stop + stop, true},
		{"Ixany alone", with(ixany, icanon), stop + "a", false},
		{"Ixany, of what Map tells nothing", with(ixon|ixany|igncr, icanon), stop + "\r", true},
		{"Ixany, a byte that waits", with(ixon|ixany, icanon|exts), stop + "\x16" + stop, false},
		{"behind Vlnext", with(ixon|ixany, icanon|exts), "\x16" + stop, false},
		{"behind Vlnext, Ixany", with(ixon|ixany, icanon|exts), "\x16" + stop + stop, true},
		{"no Ixon", with(0, icanon), stop, false},
		{"both are one", same, stop, true},
		{"both are one, twice", same, stop + stop, true},
		{"without Icanon", with(ixon, 0), stop, true},
		{"Vstop that Map tells nothing of", quiet, "\r", false},
		{"there is no Vstop", api.Termios{In: ixon}, "\x00\x13", false},
	} {
		d := ldisc.New(x.set)
		feed(d, x.in)
		if got := d.Stopped(); got != x.want {
			t.Errorf("%s: Stopped = %v", x.name, got)
		}
		b := start(t, x.set)
		b.input(x.in)
	}
}

// P18.1: a byte that is looked for is what Map made, Vstop of a 0d, too.
func TestMapped(t *testing.T) {
	s := with(icrnl|ixon, icanon|echo|isig|exts|echoe)
	for place := range places {
		x := s
		x.Cc = [places]int{}
		x.Cc[place] = 0x0a
		b := start(t, x)
		b.input("ab\rcd\re")
		b.drain()
		x.Cc[place] = 0x0d
		b = start(t, x)
		b.input("ab\rcd\re")
		b.drain()
		if got := all(b.d); got != nil {
			t.Errorf("there is more to be read: %q", got)
		}
	}
}

// P18.1: stopped, and waiting, stay with another setting and a flush; a byte that waits is put in the new setting.
func TestWaits(t *testing.T) {
	b := start(t, termios.Plain())
	b.input("a\x13\x16")
	b.flush()
	if !b.d.Stopped() {
		t.Error("Flush goes on with the output")
	}
	b.input("\x03")
	if got := b.d.Line(); string(got) != "\x03" {
		t.Errorf("behind Vlnext and Flush the line is %q", got)
	}
	b.input("\x16")
	b.set(with(icrnl|ixon, isig|echo|echoctl))
	if !b.d.Stopped() {
		t.Error("Set goes on with the output")
	}
	b.input("\x03")
	if got := b.d.Ready(); got != 2 {
		t.Errorf("behind Vlnext and Set %d bytes are ready", got)
	}
	b.read(9)
	b.input("a\x03")
	if got := b.d.Ready(); got != 0 {
		t.Errorf("the discipline waits still: %d bytes are ready", got)
	}
}

// P18.1: without Icanon nothing waits behind Vlnext.
func TestNoWait(t *testing.T) {
	b := start(t, with(ixon, isig|exts|noflsh))
	b.input("\x16\x03\x16\x13")
	if got := b.d.Ready(); got != 2 || !b.d.Stopped() {
		t.Errorf("%d bytes are ready, Stopped = %v", got, b.d.Stopped())
	}
	b.read(9)
}

// P18.1: special characters that are one byte: the first that is told does something.
func TestPairs(t *testing.T) {
	for _, in := range []int{0, ixon, ixon | ixany} {
		for _, local := range []int{icanon | echo | echoctl, icanon | echo | echoe | echok, icanon | echo | isig, icanon | echo | echoe | exts, icanon | echo | echoctl | isig | exts, echo | isig | exts} {
			for p := range places {
				for q := range places {
					var s api.Termios
					s.In, s.Local = in, local
					s.Cc[p], s.Cc[q] = 'x', 'x'
					b := start(t, s)
					b.input("a bxc\ndx\x03x e  xx fx\n")
					b.read(2)
					b.input("x")
					b.drain()
				}
			}
		}
	}
}

// P18.1: a special character of 0 is none, wherever.
func TestNone(t *testing.T) {
	for local := range 1024 {
		s := api.Termios{In: ixon, Local: local}
		b := start(t, s)
		b.input("a\x00b\x00\x00\n\x00")
		if b.d.Stopped() {
			t.Fatal("a 0 stops the output")
		}
		b.drain()
	}
}

// P18.1: each byte, with all local flags and all flags of input, behind a line and a ready one.
func TestEachFlag(t *testing.T) {
	bytes := []byte{0, 1, 3, 4, 0x0a, 0x0d, 0x11, 0x13, 0x15, 0x16, 0x17, 0x12, 0x1a, 0x1c, 0x7f, ' ', 'a', 0x83, 0x8d, 0xff}
	for local := range 1024 {
		for in := range 128 {
			b := start(t, with(in, local))
			c := bytes[(local*7+in*3)%len(bytes)]
			e := bytes[(local+in*5)%len(bytes)]
			b.input("p\nq r\x01" + string([]byte{c, 's', e, e}))
		}
	}
	for _, in := range []int{0, 127, 127 - igncr, icrnl | ixon | imaxbel, istrip | ixon, ixany | ixon | inlcr} {
		for local := range 1024 {
			s := with(in, local)
			s.Cc[veol] = 'e'
			for _, c := range bytes {
				b := start(t, s)
				b.input("p\nq r\x01" + string([]byte{c, 'z', c}))
				b.read(1)
				b.input("e")
				b.drain()
			}
		}
	}
}

// P18.1: each byte of all, in ordinary settings.
func TestEachByte(t *testing.T) {
	plain := termios.Plain()
	strip := with(127-igncr-inlcr, plain.Local)
	for _, s := range []api.Termios{plain, strip, termios.Raw(plain), with(0, 1023), with(0, 1023-icanon), with(ixon, icanon), {}} {
		for c := range 256 {
			b := start(t, s)
			b.input("a b" + string([]byte{byte(c), byte(c), 'z', byte(c), '\n'}))
			b.drain()
		}
	}
}

// P18.1: a line has at most 254 bytes, and one that ends it.
func TestMaxCanon(t *testing.T) {
	s := termios.Plain()
	s.Cc[veol] = 'E'
	long := strings.Repeat("x", 253)
	for _, r := range []row{
		{"253", s, long, long, nil, long, nil},
		{"254", s, long + "y", long + "y", nil, long + "y", nil},
		{"255", s, long + "yz", long + "y\a", nil, long + "y", nil},
		{"256", s, long + "yzz", long + "y\a\a", nil, long + "y", nil},
		{"254 and 0a", s, long + "y\n", long + "y\n", nil, "", []string{long + "y\n"}},
		{"254 and 0d", s, long + "y\r", long + "y\n", nil, "", []string{long + "y\n"}},
		{"254 and Veol", s, long + "yE", long + "yE", nil, "", []string{long + "yE"}},
		{"254 and Veof", s, long + "y\x04", long + "y", nil, "", []string{long + "y"}},
		{"255 and 0a", s, long + "yz\n", long + "y\a\n", nil, "", []string{long + "y\n"}},
		{"one is taken back", s, long + "yz\x7fw", long + "y\a\b \bw", nil, long + "w", nil},
		{"a byte behind Vlnext", s, long + "y\x16z", long + "y^\b\a", nil, long + "y", nil},
		{"a 0a behind Vlnext", s, long + "y\x16\n", long + "y^\b\n", nil, long + "y\n", nil},
		{"a Veol behind Vlnext", s, long + "y\x16E", long + "y^\bE", nil, long + "yE", nil},
		{"a 0d behind Vlnext", s, long + "y\x16\r", long + "y^\b\a", nil, long + "y", nil},
		{"a 0a, and one more", s, long + "y\x16\n\n", long + "y^\b\n\a", nil, long + "y\n", nil},
		{"a 0a, and a Veol", s, long + "y\x16\nE", long + "y^\b\n\a", nil, long + "y\n", nil},
		{"a 0a, and another byte", s, long + "y\x16\nz\x16z", long + "y^\b\n\a^\b\a", nil, long + "y\n", nil},
		{"a 0a, and Veof", s, long + "y\x16\n\x04", long + "y^\b\n", nil, "", []string{long + "y\n"}},
		{"a 0a, and Verase", s, long + "y\x16\n\x7fz\n", long + "y^\b\n\b \b\a\n", nil, "", []string{long + "y\n"}},
		{"a control", s, long + "y\x01", long + "y\a", nil, long + "y", nil},
		{"no Imaxbel", with(icrnl, icanon|echo), long + "yz\r", long + "y\n", nil, "", []string{long + "y\n"}},
		{"Imaxbel without Echo", with(icrnl|imaxbel, icanon), long + "yz\r", "\a", nil, "", []string{long + "y\n"}},
		{"Imaxbel with Echoctl", with(imaxbel, icanon|echo|echoctl), long + "yz", long + "y\a", nil, long + "y", nil},
		{"a signal", s, long + "yz\x03a", long + "y\a^Ca", []int{1}, "a", nil},
		{"the next line", s, long + "yz\nab", long + "y\a\nab", nil, "ab", []string{long + "y\n"}},
	} {
		r.check(t)
	}
}

// P18.1, P18.2: at most 1,024 bytes are ready, without Icanon.
func TestMaxRaw(t *testing.T) {
	long := strings.Repeat("x", 1023)
	for _, r := range []row{
		{"1,023", with(imaxbel, echo), long, long, nil, "", []string{long}},
		{"1,024", with(imaxbel, echo), long + "y", long + "y", nil, "", []string{long + "y"}},
		{"1,025", with(imaxbel, echo), long + "yz", long + "y\a", nil, "", []string{long + "y"}},
		{"a 0a", with(imaxbel, echo), long + "y\n", long + "y\a", nil, "", []string{long + "y"}},
		{"no Imaxbel", with(0, echo), long + "yz", long + "y", nil, "", []string{long + "y"}},
		{"no Echo", with(imaxbel, 0), long + "yz", "\a", nil, "", []string{long + "y"}},
		{"neither", with(0, 0), long + "yz", "", nil, "", []string{long + "y"}},
		{"a signal", with(imaxbel, isig), long + "yz\x03a", "\a", []int{1}, "", []string{"a"}},
	} {
		r.check(t)
	}
	b := start(t, with(imaxbel, echo))
	b.input(long + "yz")
	b.read(1)
	b.input("vw")
	if got := b.d.Ready(); got != 1024 {
		t.Errorf("Ready = %d", got)
	}
	b.drain()
}

// P18.1, P18.2: lines that are ready have at most 1,024 bytes in all.
func TestMaxLines(t *testing.T) {
	l := strings.Repeat("x", 254) + "\n"
	four := []string{l, l, l, l} // 1,020 bytes
	in := strings.Repeat(l, 4)
	s := with(imaxbel, icanon|echo|exts)
	for _, r := range []row{
		{"1,024", s, in + "abc\n", in + "abc\n", nil, "", append(slices.Clone(four), "abc\n")},
		{"1,025", s, in + "abcd\n", in + "abcd\n\a", nil, "", four},
		{"1,024 by Veof", s, in + "abcd\x04", in + "abcd", nil, "", append(slices.Clone(four), "abcd")},
		{"1,025 by Veof", s, in + "abcde\x04", in + "abcde\a", nil, "", four},
		{"a longest line", s, in + l, in + l + "\a", nil, "", four},
		{"a shorter one behind", s, in + "abcd\nab\nc\n", in + "abcd\n\aab\nc\n\a", nil, "", append(slices.Clone(four), "ab\n")},
		{"an end of file", s, in + "abc\n\x04", in + "abc\n", nil, "", append(slices.Clone(four), "abc\n", "!")},
		{"an empty line more", s, in + "abc\n\n", in + "abc\n\n\a", nil, "", append(slices.Clone(four), "abc\n")},
		{"the line that is edited doesn't count", s, in + "abc\nabcdefg", in + "abc\nabcdefg", nil, "abcdefg", append(slices.Clone(four), "abc\n")},
		{"no Imaxbel", with(0, icanon|echo), in + "abcd\nx", in + "abcd\nx", nil, "x", four},
		{"no Echo", with(imaxbel, icanon), in + "abcd\nx", "\a", nil, "x", four},
	} {
		r.check(t)
	}
	b := start(t, s)
	b.input(in + "abcd\n")
	b.read(1)
	b.input("abcd\n")
	if got := b.d.Ready(); got != 1024 {
		t.Errorf("Ready = %d", got)
	}
	b.input("\n")
	b.read(254)
	b.input(strings.Repeat("y", 253) + "\n")
	if got := b.d.Ready(); got != 1024 {
		t.Errorf("Ready = %d", got)
	}
	b.drain()
}

// P18.2, P18.3: Read answers the first n bytes of the first ready line, and no byte of the next one.
func TestRead(t *testing.T) {
	b := start(t, termios.Plain())
	for _, n := range []int{math.MinInt, -1, 0, 1, 9, math.MaxInt} {
		b.read(n)
	}
	b.input("abcd\ref\x04\x04gh")
	for _, n := range []int{math.MinInt, -1 << 32, -1, 0, 2, 0, 1, 9, 1, 1, 0, -1, 1, 1, math.MaxInt} {
		b.read(n)
	}
	b.input("\r")
	b.read(3)
	b.read(1)
	b.input("ij\r\x04kl\r")
	b.read(math.MaxInt)
	b.read(math.MaxInt)
	b.read(math.MaxInt)
	b.read(math.MaxInt)
	d := ldisc.New(termios.Plain())
	feed(d, "one\rtwo\x04\x04")
	for _, x := range []struct {
		n    int
		want string
		end  bool
		left int
	}{{3, "one", false, 4}, {9, "\n", false, 3}, {3, "two", false, 0}, {0, "", false, 0}, {-1, "", false, 0}, {1, "", true, 0}, {1, "", false, 0}} {
		if got, end := d.Read(x.n); string(got) != x.want || end != x.end || d.Ready() != x.left {
			t.Errorf("Read(%d) = %q, %v, and %d are ready", x.n, got, end, d.Ready())
		}
	}
}

// P18.2: Read without Icanon takes what is ready, whatever its bytes.
func TestReadRaw(t *testing.T) {
	b := start(t, termios.Raw(termios.Plain()))
	b.input("ab\ncd\r\x04e")
	for _, n := range []int{math.MinInt, -1, 0, 1, 3, 2, math.MaxInt, 1} {
		b.read(n)
	}
	b.input("x")
	b.read(1 << 40)
	b.read(1)
}

// P18.1: New and Set of settings that aren't right: nil, and false, and nothing is changed.
func TestWrong(t *testing.T) {
	b := start(t, termios.Plain())
	b.input("ab\rc\x13\x16")
	for _, n := range []int{math.MinInt, -1 << 32, -1, 64, 128, 256, 1024, 1<<32 + 1, math.MaxInt} {
		parts := []func(s *api.Termios) *int{func(s *api.Termios) *int { return &s.In }, func(s *api.Termios) *int { return &s.Out }, func(s *api.Termios) *int { return &s.Local }, func(s *api.Termios) *int { return &s.Min }, func(s *api.Termios) *int { return &s.Time }}
		for i := range places {
			parts = append(parts, func(s *api.Termios) *int { return &s.Cc[i] })
		}
		for i, at := range parts {
			s := termios.Raw(termios.Plain())
			*at(&s) = n
			if right(s) {
				continue
			}
			if ldisc.New(s) != nil {
				t.Errorf("part %d is %d: New isn't nil", i, n)
			}
			b.set(s)
		}
	}
	b.input("\x03")
	if got := b.d.Line(); string(got) != "c\x03" {
		t.Errorf("the line is %q", got)
	}
	b.drain()
}

// P18.1: Setting answers the setting, all its numbers.
func TestSetting(t *testing.T) {
	c := rand.New(rand.NewPCG(18, 1))
	for range 3000 {
		s := anySetting(c)
		d := ldisc.New(s)
		o := anySetting(c)
		if d.Setting() != s || !d.Set(o) || d.Setting() != o || d.Set(api.Termios{Time: 256}) || d.Setting() != o {
			t.Fatalf("%v, %v: Setting = %v", s, o, d.Setting())
		}
	}
}

// P18.1: Set, where Icanon is set not any more, is set, and stays as it was.
func TestTurn(t *testing.T) {
	plain, raw := termios.Plain(), termios.Raw(termios.Plain())
	d := ldisc.New(plain)
	feed(d, "ab\rcd\x04\x04ef")
	other := plain
	other.Local -= echo
	if !d.Set(other) || string(d.Line()) != "ef" || d.Ready() != 5 {
		t.Error("Set that leaves Icanon makes something of the lines")
	}
	if !d.Set(raw) || len(d.Line()) != 0 || d.Ready() != 7 {
		t.Errorf("without Icanon the line is %q, and %d are ready", d.Line(), d.Ready())
	}
	if !d.Set(termios.Raw(other)) || d.Ready() != 7 {
		t.Error("Set that leaves Icanon away makes something of what is ready")
	}
	if b, end := d.Read(2); string(b) != "ab" || end {
		t.Errorf("Read = %q, %v", b, end)
	}
	if !d.Set(plain) || string(d.Line()) != "\ncdef" || d.Ready() != 0 {
		t.Errorf("with Icanon the line is %q, and %d are ready", d.Line(), d.Ready())
	}
	if got := all(d); got != nil {
		t.Errorf("lines are ready that aren't: %q", got)
	}
	feed(d, "\x7fg\r")
	if got := all(d); !slices.Equal(got, []string{"\ncdeg\n"}) {
		t.Errorf("read are %q", got)
	}
}

// P18.1: of an end of file nothing is left without Icanon.
func TestTurnEnd(t *testing.T) {
	d := ldisc.New(termios.Plain())
	feed(d, "\x04\x04a\r\x04")
	d.Set(termios.Raw(termios.Plain()))
	if got := all(d); !slices.Equal(got, []string{"a\n"}) {
		t.Errorf("read are %q", got)
	}
	d.Set(termios.Plain())
	if b, end := d.Read(1); len(b) != 0 || end {
		t.Errorf("Read = %q, %v", b, end)
	}
}

// P18.1: of what becomes one line what is above 254 bytes is lost; of what becomes ready bytes nothing is.
func TestTurnLong(t *testing.T) {
	plain, raw := termios.Plain(), termios.Raw(termios.Plain())
	for _, n := range []int{0, 1, 253, 254, 255, 256, 1023, 1024} {
		b := start(t, raw)
		text := strings.Repeat("abcdefg", 150)[:n]
		b.input(text)
		b.set(plain)
		if got := string(b.d.Line()); got != text[:min(n, 254)] || b.d.Ready() != 0 {
			t.Errorf("of %d bytes the line is %q", n, got)
		}
		b.input("x\n")
		b.drain()
	}
	b := start(t, plain)
	line := strings.Repeat("x", 254) + "\n"
	b.input(strings.Repeat(line, 4) + "abc\n" + line[:254] + "\x16\n")
	b.set(raw)
	if got := b.d.Ready(); got != 1024+255 {
		t.Errorf("Ready = %d", got)
	}
	b.input("y")
	b.read(255)
	b.input("y")
	b.read(1)
	b.input("zz")
	if got := b.d.Ready(); got != 1024 {
		t.Errorf("Ready = %d", got)
	}
	b.set(plain)
	b.drain()
	b.input("\n")
	b.drain()
}

// P18.2: Flush makes the line, and what is ready, go, ends of files, too.
func TestFlush(t *testing.T) {
	for _, s := range []api.Termios{termios.Plain(), termios.Raw(termios.Plain())} {
		b := start(t, s)
		b.flush()
		b.input("ab\rc\x04\x04d\x13")
		b.flush()
		if b.d.Ready() != 0 || len(b.d.Line()) != 0 {
			t.Error("something is left")
		}
		b.drain()
		b.input("e\r")
		b.drain()
	}
}

// P18.3: what is read is what was put, less what was taken back, line by line.
func TestPut(t *testing.T) {
	c := rand.New(rand.NewPCG(18, 2))
	for range 400 {
		d := ldisc.New(termios.Plain())
		var want, got []string
		line := ""
		for range 200 {
			if b, _ := d.Read(1 + c.IntN(400)); len(b) > 0 {
				got = append(got, string(b))
			}
			switch k := c.IntN(10); {
			case k < 6:
				line += string([]byte{'a' + byte(k)})
				d.Input('a' + byte(k))
			case k < 8:
				line = line[:max(0, len(line)-1)]
				d.Input(0x7f)
			default:
				want = append(want, line+"\n")
				line = ""
				d.Input(0x0d)
			}
		}
		got = append(got, all(d)...)
		if strings.Join(got, "") != strings.Join(want, "") || string(d.Line()) != line {
			t.Fatalf("read are %q, want %q", got, want)
		}
		for _, b := range got {
			if i := strings.IndexByte(b, '\n'); i >= 0 && i != len(b)-1 {
				t.Fatalf("two lines are read as one: %q", b)
			}
		}
	}
}

// flagged is a sum of flags of at most most: any, all, or of an ordinary terminal.
func flagged(c *rand.Rand, most, plain int) int {
	switch c.IntN(4) {
	case 0:
		return most
	case 1:
		return plain ^ 1<<c.IntN(10)&most
	case 2:
		return plain
	}
	return c.IntN(most + 1)
}

// few are bytes with which special characters come often.
var few = []byte{0, 1, 3, 4, 9, 0x0a, 0x0d, 0x11, 0x13, 0x15, 0x16, 0x17, 0x1a, 0x1c, 0x12, ' ', 'a', 'b', 0x7f, 0x80, 0x8a, 0x8d, 0xff}

// anySetting is any right setting; often its special characters are among few bytes.
func anySetting(c *rand.Rand) api.Termios {
	s := termios.Plain()
	s.In, s.Local, s.Out = flagged(c, 127, s.In), flagged(c, 1023, s.Local), c.IntN(64)
	s.Min, s.Time = c.IntN(256), c.IntN(256)
	switch c.IntN(3) {
	case 0:
		for i := range places {
			s.Cc[i] = int(few[c.IntN(len(few))])
		}
	case 1:
		s.Cc[c.IntN(places)] = int(few[c.IntN(len(few))])
	}
	return s
}

// P1, R1, P18.1 to P18.3: any calls, all against the words.
func TestAny(t *testing.T) {
	c := rand.New(rand.NewPCG(18, 3))
	for range 3000 {
		b := start(t, anySetting(c))
		for range 120 {
			switch k := c.IntN(100); {
			case k < 70:
				b.input(string(few[c.IntN(len(few)):][:1]))
			case k < 80:
				b.input(string([]byte{byte(c.IntN(256))}))
			case k < 92:
				b.read(c.IntN(12) - 1)
			case k < 94:
				b.input(strings.Repeat(string(few[c.IntN(len(few)):][:1]), c.IntN(600)))
			case k < 95:
				b.flush()
			case k < 97:
				b.drain()
			default:
				b.set(anySetting(c))
			}
		}
		b.drain()
	}
}

// R4: what is answered may be written over.
func TestMemory(t *testing.T) {
	over := func(b []byte) {
		for i := range b {
			b[i] = '#'
		}
		_ = append(b[:len(b):cap(b)], '#')
		for i := range b[:cap(b)] {
			b[:cap(b)][i] = '#'
		}
	}
	for _, s := range []api.Termios{termios.Plain(), termios.Raw(termios.Plain()), with(icrnl, 1023-echo-isig), with(icrnl, echo)} {
		b := start(t, s)
		c := rand.New(rand.NewPCG(18, 4))
		for range 400 {
			x := few[c.IntN(len(few))]
			e, _ := b.d.Input(x)
			b.w.Input(x)
			over(e)
			over(b.d.Line())
			b.state()
			if c.IntN(4) == 0 {
				n := c.IntN(5)
				got, _ := b.d.Read(n)
				want, _ := b.w.Read(n)
				if string(got) != want {
					t.Fatalf("Read = %q, want %q", got, want)
				}
				over(got)
				b.state()
			}
		}
		b.drain()
	}
}

// R4: what was answered stays as it was, whatever comes then.
func TestKept(t *testing.T) {
	d := ldisc.New(termios.Plain())
	shown, _ := d.Input('\x01')
	feed(d, "bc\ndef\n")
	first, _ := d.Read(2)
	line := d.Line()
	feed(d, "xyz")
	other := d.Line()
	feed(d, "\x15uvwxyz\n\x7f\x03abcdef\n")
	all(d)
	if string(shown) != "^A" || string(first) != "\x01b" || len(line) != 0 || string(other) != "xyz" {
		t.Errorf("answers became %q, %q, %q, %q", shown, first, line, other)
	}
}

// R4: a setting that was handed in, and one that was answered, may be changed.
func TestSettingMemory(t *testing.T) {
	s := termios.Plain()
	d := ldisc.New(s)
	s.Local = 0
	got := d.Setting()
	got.Cc[verase] = 'a'
	if d.Setting() != termios.Plain() {
		t.Errorf("Setting = %v", d.Setting())
	}
	if e, _ := d.Input('a'); string(e) != "a" {
		t.Errorf("a shows %q", e)
	}
}

// R6: two disciplines with the same calls have the same answers, and neither knows of the other.
func TestOneAnswer(t *testing.T) {
	c := rand.New(rand.NewPCG(18, 5))
	for range 300 {
		s := anySetting(c)
		a, b, o := ldisc.New(s), ldisc.New(s), ldisc.New(anySetting(c))
		for range 60 {
			x := few[c.IntN(len(few))]
			e, sig := a.Input(x)
			o.Input(few[c.IntN(len(few))])
			f, sig2 := b.Input(x)
			n := c.IntN(4)
			p, end := a.Read(n)
			o.Read(2)
			q, end2 := b.Read(n)
			if !bytes.Equal(e, f) || sig != sig2 || !bytes.Equal(p, q) || end != end2 || a.Ready() != b.Ready() || !bytes.Equal(a.Line(), b.Line()) || a.Stopped() != b.Stopped() {
				t.Fatalf("%v: two answers at %x", s, x)
			}
			if a.Ready() != a.Ready() || !bytes.Equal(a.Line(), a.Line()) || a.Setting() != s {
				t.Fatalf("%v: asking changes something", s)
			}
		}
	}
}

// P1: what New answers of a setting that isn't right takes all calls, and finds nothing.
func TestNil(t *testing.T) {
	d := ldisc.New(api.Termios{Min: -1})
	if d != nil {
		t.Fatal("New isn't nil")
	}
	if d.Set(termios.Plain()) || d.Setting() != (api.Termios{}) || d.Ready() != 0 || d.Line() != nil || d.Stopped() {
		t.Error("there is something in nothing")
	}
	if e, sig := d.Input('a'); e != nil || sig != 0 {
		t.Error("something comes of a byte")
	}
	if b, end := d.Read(1); b != nil || end {
		t.Error("something is read")
	}
	d.Flush()
}

// P1, R1: every call ends and none panics, at any argument, and all is as the words tell.
func FuzzAll(f *testing.F) {
	f.Add(84, 623, 4, 3, "ab\x7fc\r", 3)
	f.Add(127, 1023, 0, 0x0a, "\x16\x16\n\x17\x15\x04\x04", 1)
	f.Add(16+32, 1022, 11, 0x61, "a\x13b\x11", math.MaxInt)
	f.Add(-1, 1024, 12, 256, "\x00", math.MinInt)
	f.Fuzz(func(t *testing.T, in, local, place, special int, text string, n int) {
		s := with(in, local)
		s.Cc[uint(place)%places] = special
		if !right(s) {
			if ldisc.New(s) != nil {
				t.Fatalf("New(%v) isn't nil", s)
			}
			s = termios.Plain()
		}
		b := start(t, s)
		b.input(text)
		b.read(n)
		b.set(with(in, local^icanon))
		b.input(text)
		b.read(n)
		b.set(s)
		b.input(text + "\n")
		b.read(n)
		b.flush()
		b.drain()
	})
}

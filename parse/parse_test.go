package parse_test

import (
	"math"
	"math/rand/v2"
	"regexp"
	"slices"
	"strconv"
	"strings"
	"testing"

	"betony/api"
	"betony/parse"
	"betony/utf"
)

// What the chapter says the bounds are.
const (
	texts   = 256 // bytes of a text
	formed  = 255 // of one that has a form
	places  = 16  // parameters
	last    = 9999
	bad     = 0xfffd
	most    = 3 // sequences that a byte tells
	lastOne = 0x10ffff
)

// What is told, by its kind's number in the document.
func prints(r rune) api.Seq { return api.Seq{Kind: 1, R: r} }

func execs(c byte) api.Seq { return api.Seq{Kind: 2, Final: c} }

func esc(inter string, final byte) api.Seq { return api.Seq{Kind: 3, Inter: inter, Final: final} }

func csi(priv byte, inter string, final byte, params ...int) api.Seq {
	return api.Seq{Kind: 4, Priv: priv, Inter: inter, Params: params, Final: final}
}

func osc(text string) api.Seq { return api.Seq{Kind: 5, Text: text} }

// seqs is what is told one behind the other.
func seqs(l ...api.Seq) []api.Seq { return l }

// same tells whether two sequences are one, part by part.
func same(a, b api.Seq) bool {
	if len(a.Params) != len(b.Params) {
		return false
	}
	for i := range a.Params {
		if a.Params[i] != b.Params[i] {
			return false
		}
	}
	return a.Kind == b.Kind && a.R == b.R && a.Priv == b.Priv && a.Inter == b.Inter && a.Final == b.Final && a.Text == b.Text
}

// alike tells whether two lists of sequences are one.
func alike(a, b []api.Seq) bool { return slices.EqualFunc(a, b, same) }

// forms are the sequences by the words, without the controls among them.
type forms struct {
	esc, csi, colons *regexp.Regexp
}

// known is made once.
var known = forms{
	esc:    regexp.MustCompile(`^([ -/]{0,2})([0-~])$`),
	csi:    regexp.MustCompile(`^\[([<-?]?)([0-9:;]*)([ -/]{0,2})([@-~])$`),
	colons: regexp.MustCompile(`[:;]`),
}

// ended tells whether a sequence ends with the last byte of body, its bytes behind the escape.
func ended(body string) bool {
	c := body[len(body)-1]
	if body[0] == '[' {
		return len(body) > 1 && c >= 0x40
	}
	return c >= 0x30
}

// number is the parameter that digits tell.
func number(digits string) int {
	short := strings.TrimLeft(digits, "0")
	switch {
	case digits == "":
		return -1
	case short == "":
		return 0
	case len(short) > 4:
		return last
	}
	n, _ := strconv.Atoi(short)
	return n
}

// params are the parameters that text tells.
func (f forms) params(text string) []int {
	if text == "" {
		return nil
	}
	var l []int
	for _, digits := range f.colons.Split(text, -1) {
		l = append(l, number(digits))
	}
	return l[:min(len(l), places)]
}

// told is what a sequence tells whose bytes behind the escape are body; nothing, if it is spoilt.
func (f forms) told(body string) []api.Seq {
	if m := f.csi.FindStringSubmatch(body); m != nil {
		priv := byte(0)
		if m[1] != "" {
			priv = m[1][0]
		}
		return seqs(csi(priv, m[3], m[4][0], f.params(m[2])...))
	}
	if m := f.esc.FindStringSubmatch(body); m != nil && body != "[" {
		return seqs(esc(m[1], m[2][0]))
	}
	return nil
}

// plain is by the words what text tells up to the first escape, how many bytes that are, and whether no rune waits then.
func plain(text string) (told []api.Seq, size int, ground bool) {
	size = len(text)
	if i := strings.IndexByte(text, 0x1b); i >= 0 {
		size = i
	}
	for i := 0; i < size; {
		n := i
		for n < size && text[n] >= 0x20 && text[n] != 0x7f {
			n++
		}
		if n > i {
			runes := utf.All([]byte(text[i:n]))
			waits := n == len(text) && waiting(text[i:n])
			if waits {
				runes = runes[:len(runes)-1]
			}
			for _, r := range runes {
				told = append(told, prints(r))
			}
			if waits {
				return told, size, false
			}
			i = n
			continue
		}
		if text[i] < 0x20 {
			told = append(told, execs(text[i]))
		}
		i++
	}
	return told, size, true
}

// waiting tells whether a rune waits behind text.
func waiting(text string) bool {
	var d utf.Decoder
	for _, c := range []byte(text) {
		d.Feed(c)
	}
	return d.Waits() > 0
}

// long is by the words what a text or a string tells, with what stands behind its beginning; how many bytes that are, and whether it led to ground.
func long(text string, isText bool) (told []api.Seq, size int, ground bool) {
	var kept []byte
	for i, c := range []byte(text) {
		switch {
		case c == 0x18, c == 0x1a:
			return nil, i + 1, true
		case c == 0x1b && isText:
			return seqs(osc(string(kept))), i, false
		case c == 0x1b:
			return nil, i, false
		case c == 0x07 && isText:
			return seqs(osc(string(kept))), i + 1, true
		case c >= 0x20 && c != 0x7f && len(kept) < texts:
			kept = append(kept, c)
		}
	}
	return nil, len(text), false
}

// sequence is by the words what text tells from the escape on that it begins with; how many bytes that are, and whether it led to ground.
func sequence(text string) (told []api.Seq, size int, ground bool) {
	body := ""
	for i := 1; i < len(text); i++ {
		c := text[i]
		switch {
		case c == 0x18, c == 0x1a:
			return told, i + 1, true
		case c == 0x1b:
			return told, i, false
		case c >= 0x80:
			return told, i, true
		case c < 0x20:
			told = append(told, execs(c))
		case c != 0x7f:
			body += string(rune(c))
			if len(body) == 1 && strings.Contains("]PX^_", body) {
				l, n, ground := long(text[i+1:], c == ']')
				return append(told, l...), i + 1 + n, ground
			}
			if ended(body) {
				return append(told, known.told(body)...), i + 1, true
			}
		}
	}
	return told, len(text), false
}

// words is by the words of the chapter what all of text tells, and whether a parser is in ground behind, with nothing that waits.
func words(text string) (told []api.Seq, ground bool) {
	ground = true
	for text != "" {
		part := plain
		if text[0] == 0x1b {
			part = sequence
		}
		l, size, so := part(text)
		told, text, ground = append(told, l...), text[size:], so
	}
	return told, ground
}

// check holds All, and a parser byte by byte, against the words.
func check(t *testing.T, text string) {
	t.Helper()
	var p parse.Parser
	var told []api.Seq
	for i := range len(text) {
		got := p.Feed(text[i])
		told = append(told, got...)
		want, ground := words(text[:i+1])
		if len(got) > most || !alike(told, want) || p.Ground() != ground {
			t.Fatalf("%q, byte %d: told %v, ground %v; want %v, %v", text, i, told, p.Ground(), want, ground)
		}
	}
	checkAll(t, text)
}

// checkAll holds All, and what a parser tells in all, against the words.
func checkAll(t *testing.T, text string) {
	t.Helper()
	var p parse.Parser
	var told []api.Seq
	for i := range len(text) {
		told = append(told, p.Feed(text[i])...)
	}
	want, ground := words(text)
	if got := parse.All([]byte(text)); !alike(got, want) {
		t.Fatalf("All(%q) = %v, want %v", text, got, want)
	}
	if !alike(told, want) || p.Ground() != ground {
		t.Fatalf("%q: told %v, ground %v; want %v, %v", text, told, p.Ground(), want, ground)
	}
	checkBounds(t, text, told)
}

// checkBounds: parameters are at most 16, each from -1 to 9,999; intermediates and texts are as long as they may be (P23.3).
func checkBounds(t *testing.T, text string, told []api.Seq) {
	t.Helper()
	for _, s := range told {
		if len(s.Params) > places || len(s.Inter) > 2 || len(s.Text) > texts {
			t.Fatalf("%q: %v is too long", text, s)
		}
		for _, n := range s.Params {
			if n < -1 || n > last {
				t.Fatalf("%q: %v has a parameter that is outside", text, s)
			}
		}
	}
}

// row is bytes, what they tell, and whether they lead to ground.
type row struct {
	in     string
	want   []api.Seq
	ground bool
}

// wantRows holds All and a parser against rows, and the words, too.
func wantRows(t *testing.T, rows ...row) {
	t.Helper()
	for _, x := range rows {
		if got := parse.All([]byte(x.in)); !alike(got, x.want) {
			t.Errorf("All(%q) = %v, want %v", x.in, got, x.want)
		}
		if p := fed(x.in); p.Ground() != x.ground {
			t.Errorf("behind %q ground is %v", x.in, p.Ground())
		}
		check(t, x.in)
	}
}

// fed is a parser behind text.
func fed(text string) parse.Parser {
	var p parse.Parser
	for _, c := range []byte(text) {
		p.Feed(c)
	}
	return p
}

// step is a byte for a parser, what it tells, and whether it is in ground then.
type step struct {
	c      byte
	want   []api.Seq
	ground bool
}

// wantSteps holds a fresh parser against steps.
func wantSteps(t *testing.T, steps ...step) {
	t.Helper()
	var p parse.Parser
	if !p.Ground() {
		t.Error("the zero Parser isn't in ground")
	}
	for i, x := range steps {
		if got := p.Feed(x.c); !alike(got, x.want) || p.Ground() != x.ground {
			t.Errorf("step %d of %v: told %v, ground %v", i, steps, got, p.Ground())
		}
	}
}

// The chapter's example.
func TestExample(t *testing.T) {
	wantRows(t, row{"\x1b[31;4m", seqs(csi(0, "", 'm', 31, 4)), true})
}

// The kinds have the numbers that the tests say.
func TestNumbers(t *testing.T) {
	for i, n := range []int{api.SeqPrint, api.SeqExec, api.SeqEsc, api.SeqCsi, api.SeqOsc} {
		if n != i+1 {
			t.Errorf("kind %d is %d", i+1, n)
		}
	}
	if api.MaxParams != places || api.Bad != bad {
		t.Error("the limits are other ones")
	}
}

// P23.1: Feed and Ground, byte by byte.
func TestSteps(t *testing.T) {
	wantSteps(t, step{'a', seqs(prints('a')), true}, step{0x7f, nil, true}, step{0, seqs(execs(0)), true}, step{0x18, seqs(execs(0x18)), true}, step{0x1b, nil, false}, step{'(', nil, false}, step{'0', seqs(esc("(", '0')), true}, step{'0', seqs(prints('0')), true})
	wantSteps(t, step{0xe2, nil, false}, step{0x82, nil, false}, step{0xac, seqs(prints(0x20ac)), true})
	wantSteps(t, step{0xe2, nil, false}, step{0xe2, seqs(prints(bad)), false}, step{0x1a, seqs(prints(bad), execs(0x1a)), true})
	wantSteps(t, step{0xe2, nil, false}, step{0x82, nil, false}, step{0xff, seqs(prints(bad), prints(bad)), true})
	wantSteps(t, step{0xe2, nil, false}, step{'a', seqs(prints(bad), prints('a')), true})
	wantSteps(t, step{0xc3, nil, false}, step{0x7f, seqs(prints(bad)), true}, step{0xa9, seqs(prints(bad)), true})
	wantSteps(t, step{0xc3, nil, false}, step{0x1b, seqs(prints(bad)), false}, step{'7', seqs(esc("", '7')), true})
	wantSteps(t, step{0x1b, nil, false}, step{0xc3, nil, false}, step{0xa9, seqs(prints(0xe9)), true})
	wantSteps(t, step{0x1b, nil, false}, step{'[', nil, false}, step{'1', nil, false}, step{0x0a, seqs(execs(0x0a)), false}, step{'m', seqs(csi(0, "", 'm', 1)), true})
	wantSteps(t, step{0x1b, nil, false}, step{']', nil, false}, step{'x', nil, false}, step{0x1b, seqs(osc("x")), false}, step{']', nil, false}, step{0x07, seqs(osc("")), true}, step{0x07, seqs(execs(0x07)), true})
	wantSteps(t, step{0x1b, nil, false}, step{'P', nil, false}, step{'x', nil, false}, step{0x1b, nil, false}, step{'\\', seqs(esc("", '\\')), true})
}

// P23.1: ground.
func TestGround(t *testing.T) {
	wantRows(t,
		row{"", nil, true},
		row{"ab", seqs(prints('a'), prints('b')), true},
		row{"\x00\x1f\x18\x1a", seqs(execs(0), execs(0x1f), execs(0x18), execs(0x1a)), true},
		row{" ~\x7f!", seqs(prints(' '), prints('~'), prints('!')), true},
		row{"\u00e9\u4e00\U0010ffff", seqs(prints(0xe9), prints(0x4e00), prints(lastOne)), true},
		row{"\u0080\u009b\u009f1m", seqs(prints(0x80), prints(0x9b), prints(0x9f), prints('1'), prints('m')), true},
		row{"\ufffd", seqs(prints(bad)), true},
		row{"\x9b1m", seqs(prints(bad), prints('1'), prints('m')), true},
		row{"\xff\xc0\xf5", seqs(prints(bad), prints(bad), prints(bad)), true},
		row{"\xed\xa0\x80", seqs(prints(bad), prints(bad), prints(bad)), true},
		// What waits is told ahead of any byte below 80.
		row{"\xf0\x9f\x98", nil, false},
		row{"\xc3\n", seqs(prints(bad), execs('\n')), true},
		row{"\xe2\x82\x18", seqs(prints(bad), execs(0x18)), true},
		row{"\xe2\x82\x7f", seqs(prints(bad)), true},
		row{"\xe2\x82\x7f\xac", seqs(prints(bad), prints(bad)), true},
		row{"\xe2\x82\x1b[m", seqs(prints(bad), csi(0, "", 'm')), true},
		row{"\xe2\x82\x1b", seqs(prints(bad)), false},
		row{"\xe2\x82 \xac", seqs(prints(bad), prints(' '), prints(bad)), true},
		row{"\xe2\xe2\x82\xac", seqs(prints(bad), prints(0x20ac)), true},
		row{"\xc3\x00\xa9", seqs(prints(bad), execs(0), prints(bad)), true},
	)
}

// P23.1: esc.
func TestEsc(t *testing.T) {
	wantRows(t,
		row{"\x1bD", seqs(esc("", 'D')), true},
		row{"\x1b0\x1b~\x1b\\", seqs(esc("", '0'), esc("", '~'), esc("", '\\')), true},
		row{"\x1b(B", seqs(esc("(", 'B')), true},
		row{"\x1b /0", seqs(esc(" /", '0')), true},
		row{"\x1b( ~", seqs(esc("( ", '~')), true},
		row{"\x1b(", nil, false},
		// With intermediates each byte from 30 on ends it.
		row{"\x1b([\x1b)]\x1b*P\x1b+X\x1b,^\x1b-_", seqs(esc("(", '['), esc(")", ']'), esc("*", 'P'), esc("+", 'X'), esc(",", '^'), esc("-", '_')), true},
		row{"\x1b(1\x1b(?\x1b(;", seqs(esc("(", '1'), esc("(", '?'), esc("(", ';')), true},
		// A third one spoils it, and it ends as others do.
		row{"\x1b((((", nil, false},
		row{"\x1b !\"Fz", seqs(prints('z')), true},
		row{"\x1b    [z", seqs(prints('z')), true},
		row{"\x1b   \n F\x1bD", seqs(execs('\n'), esc("", 'D')), true},
		// Controls.
		row{"\x1b\nD", seqs(execs('\n'), esc("", 'D')), true},
		row{"\x1b\x00(\x07\x1f0", seqs(execs(0), execs(7), execs(0x1f), esc("(", '0')), true},
		row{"\x1b\x7f(\x7f0", seqs(esc("(", '0')), true},
		row{"\x1b\n[\r1m", seqs(execs('\n'), execs('\r'), csi(0, "", 'm', 1)), true},
		// Another escape begins anew.
		row{"\x1b\x1bD", seqs(esc("", 'D')), true},
		row{"\x1b(\x1bD", seqs(esc("", 'D')), true},
		row{"\x1b   \x1b)0", seqs(esc(")", '0')), true},
		// Ground, and the byte there.
		row{"\x1b\x80D", seqs(prints(bad), prints('D')), true},
		row{"\x1b(\xc3", nil, false},
		row{"\x1b(\u00e90", seqs(prints(0xe9), prints('0')), true},
		row{"\x1b   \xffD", seqs(prints(bad), prints('D')), true},
		// Ground.
		row{"\x1b\x18D", seqs(prints('D')), true},
		row{"\x1b(\x1a0", seqs(prints('0')), true},
		row{"\x1b   \x18\x18", seqs(execs(0x18)), true},
	)
}

// P23.1: each byte behind an escape, with intermediates and without.
func TestEscBytes(t *testing.T) {
	for c := 0x30; c <= 0x7e; c++ {
		if final := string(rune(c)); !strings.Contains("[]PX^_", final) {
			wantRows(t, row{"\x1b" + final, seqs(esc("", byte(c))), true})
		} else {
			wantRows(t, row{"\x1b" + final, nil, false})
		}
		for inter := 0x20; inter <= 0x2f; inter++ {
			one := string(rune(inter))
			wantRows(t,
				row{"\x1b" + one + string(rune(c)), seqs(esc(one, byte(c))), true},
				row{"\x1b!" + one + string(rune(c)), seqs(esc("!"+one, byte(c))), true},
				row{"\x1b" + one + "!" + string(rune(c)), seqs(esc(one+"!", byte(c))), true},
				row{"\x1b!!" + one + string(rune(c)), nil, true},
			)
		}
	}
}

// P23.1: csi.
func TestCsi(t *testing.T) {
	wantRows(t,
		row{"\x1b[", nil, false},
		row{"\x1b[12;", nil, false},
		row{"\x1b[m\x1b[@\x1b[~\x1b[[\x1b[]\x1b[P", seqs(csi(0, "", 'm'), csi(0, "", '@'), csi(0, "", '~'), csi(0, "", '['), csi(0, "", ']'), csi(0, "", 'P')), true},
		row{"\x1b[2 q\x1b[!p\x1b[0$/x", seqs(csi(0, " ", 'q', 2), csi(0, "!", 'p'), csi(0, "$/", 'x', 0)), true},
		// The private marker.
		row{"\x1b[?25h\x1b[>c\x1b[<1M\x1b[=0;1l", seqs(csi('?', "", 'h', 25), csi('>', "", 'c'), csi('<', "", 'M', 1), csi('=', "", 'l', 0, 1)), true},
		row{"\x1b[?$p\x1b[?;h", seqs(csi('?', "$", 'p'), csi('?', "", 'h', -1, -1)), true},
		row{"\x1b[\n?\r2\x7f5h", seqs(execs('\n'), execs('\r'), csi('?', "", 'h', 25)), true},
		row{"\x1b[\x7f?1h", seqs(csi('?', "", 'h', 1)), true},
		row{"\x1b\x7f[?1h", seqs(csi('?', "", 'h', 1)), true},
		// It spoils elsewhere.
		row{"\x1b[??hz", seqs(prints('z')), true},
		row{"\x1b[?>hz", seqs(prints('z')), true},
		row{"\x1b[?1?hz", seqs(prints('z')), true},
		row{"\x1b[1?hz", seqs(prints('z')), true},
		row{"\x1b[;<hz", seqs(prints('z')), true},
		row{"\x1b[:=hz", seqs(prints('z')), true},
		row{"\x1b[1\n>hz", seqs(execs('\n'), prints('z')), true},
		row{"\x1b[ ?hz", seqs(prints('z')), true},
		// So does what isn't an intermediate or the end behind one.
		row{"\x1b[ 2qz", seqs(prints('z')), true},
		row{"\x1b[1 2qz", seqs(prints('z')), true},
		row{"\x1b[1 ;qz", seqs(prints('z')), true},
		row{"\x1b[1 :qz", seqs(prints('z')), true},
		row{"\x1b[1 <qz", seqs(prints('z')), true},
		row{"\x1b[1 2 qz", seqs(prints('z')), true},
		row{"\x1b[   qz", seqs(prints('z')), true},
		row{"\x1b[1    qz", seqs(prints('z')), true},
		// What is spoilt ends as others do.
		row{"\x1b[1?\n2\x7f3\a;mz", seqs(execs('\n'), execs(7), prints('z')), true},
		row{"\x1b[1?", nil, false},
		row{"\x1b[1?\x1b[3m", seqs(csi(0, "", 'm', 3)), true},
		row{"\x1b[1?\x18z", seqs(prints('z')), true},
		row{"\x1b[1?\xc3\xa9", seqs(prints(0xe9)), true},
		// And the next one isn't spoilt.
		row{"\x1b[??h\x1b[?1;2 q\x1b((0", seqs(csi('?', " ", 'q', 1, 2), esc("((", '0')), true},
		// Controls.
		row{"\x1b[1\n2\x00;\x073\x1fA", seqs(execs('\n'), execs(0), execs(7), execs(0x1f), csi(0, "", 'A', 12, 3)), true},
		row{"\x1b[1\x7f2 \x7f q", seqs(csi(0, "  ", 'q', 12)), true},
		row{"\x1b[1 \n q", seqs(execs('\n'), csi(0, "  ", 'q', 1)), true},
		// Other ends.
		row{"\x1b[1\x18m", seqs(prints('m')), true},
		row{"\x1b[1\x1am", seqs(prints('m')), true},
		row{"\x1b[1\x1b[2m", seqs(csi(0, "", 'm', 2)), true},
		row{"\x1b[1\x1bm", seqs(esc("", 'm')), true},
		row{"\x1b[?1; \x1b[m", seqs(csi(0, "", 'm')), true},
		row{"\x1b[1\x80m", seqs(prints(bad), prints('m')), true},
		row{"\x1b[1\xc3", nil, false},
		row{"\x1b[1\u00e9m", seqs(prints(0xe9), prints('m')), true},
	)
}

// semis are n further parameters that begin.
func semis(n int) string { return strings.Repeat(";", n) }

// outs are n parameters that are left out, and others behind them.
func outs(n int, more ...int) []int { return append(slices.Repeat([]int{-1}, n), more...) }

// P23.1, P23.3: parameters.
func TestParams(t *testing.T) {
	for _, x := range []struct {
		in   string
		want []int
	}{
		{"", nil},
		{"0", []int{0}},
		{"7", []int{7}},
		{"0031", []int{31}},
		{"1;2", []int{1, 2}},
		{"1:2;3", []int{1, 2, 3}},
		{";", outs(2)},
		{":", outs(2)},
		{";;", outs(3)},
		{"1;", []int{1, -1}},
		{";1", []int{-1, 1}},
		{"1;;2", []int{1, -1, 2}},
		{"0;0", []int{0, 0}},
		{"999", []int{999}},
		{"9998", []int{9998}},
		{"9999", []int{9999}},
		{"10000", []int{9999}},
		{"99999", []int{9999}},
		{"10000;1", []int{9999, 1}},
		{"00000000000000000009", []int{9}},
		{"000000000000010000", []int{9999}},
		{"9223372036854775808", []int{9999}},
		{"18446744073709551617", []int{9999}},
		{"18446744073709551616" + semis(1) + "4294967297", []int{9999, 9999}},
		{strings.Repeat("1", 400), []int{9999}},
		{"1" + strings.Repeat("0", 400), []int{9999}},
		{semis(14), outs(15)},
		{semis(15), outs(16)},
		{semis(16), outs(16)},
		{semis(17), outs(16)},
		{semis(300), outs(16)},
		{semis(14) + "5", outs(14, 5)},
		{semis(15) + "56", outs(15, 56)},
		{semis(16) + "5", outs(16)},
		{semis(15) + "5;6", outs(15, 5)},
		{semis(15) + "5;6;7;8", outs(15, 5)},
		{semis(300) + "5", outs(16)},
		{"1;2;3;4;5;6;7;8;9;10;11;12;13;14;15;16", []int{1, 2, 3, 4, 5, 6, 7, 8, 9, 10, 11, 12, 13, 14, 15, 16}},
		{"1:2:3;4;5;6;7;8;9;10:11;12;13;14;15;16;17;18", []int{1, 2, 3, 4, 5, 6, 7, 8, 9, 10, 11, 12, 13, 14, 15, 16}},
	} {
		wantRows(t,
			row{"\x1b[" + x.in + "m", seqs(csi(0, "", 'm', x.want...)), true},
			row{"\x1b[?" + x.in + "$p", seqs(csi('?', "$", 'p', x.want...)), true},
			row{"\x1b[" + x.in + "?m", spoiltBy(x.in, '?', 'm'), true},
		)
	}
}

// spoiltBy is what a marker tells behind parameters: nothing, but if there are none.
func spoiltBy(params string, marker, final byte) []api.Seq {
	if params == "" {
		return seqs(csi(marker, "", final))
	}
	return nil
}

// P23.1: each number is told as it is.
func TestEachNumber(t *testing.T) {
	for n := range 11000 {
		digits := strconv.Itoa(n)
		want := seqs(csi(0, "", 'm', min(n, last), -1, min(n, last)))
		if got := parse.All([]byte("\x1b[" + digits + ";;0" + digits + "m")); !alike(got, want) {
			t.Fatalf("of %d: %v", n, got)
		}
	}
}

// P23.1: osc.
func TestOsc(t *testing.T) {
	wantRows(t,
		row{"\x1b]", nil, false},
		row{"\x1b]0;hi", nil, false},
		row{"\x1b]\x07", seqs(osc("")), true},
		row{"\x1b]0;hi\x07z", seqs(osc("0;hi"), prints('z')), true},
		row{"\x1b]x\x1b\\", seqs(osc("x"), esc("", '\\')), true},
		row{"\x1b]x\x1b", seqs(osc("x")), false},
		row{"\x1b]\x1b]\x1b]a\x07", seqs(osc(""), osc(""), osc("a")), true},
		row{"\x1b]x\x1b[1m", seqs(osc("x"), csi(0, "", 'm', 1)), true},
		row{"\x1b]x\x18z", seqs(prints('z')), true},
		row{"\x1b]x\x1az", seqs(prints('z')), true},
		row{"\x1b]x\x18\x1b]y\x07", seqs(osc("y")), true},
		row{"\x1b]x\x07\x1b]y\x07", seqs(osc("x"), osc("y")), true},
		row{"\x1b]a\x00b\nc\x1fd\x7fe\x07", seqs(osc("abcde")), true},
		row{"\x1b] ~[P\\\x07", seqs(osc(" ~[P\\")), true},
		row{"\x1b]\x80\xff\u00e9\x9c\x07", seqs(osc("\x80\xff\xc3\xa9\x9c")), true},
		row{"\x1b\n]\x7f\x07", seqs(execs('\n'), osc("")), true},
	)
}

// P23.1: a text has at most 256 bytes.
func TestLongTexts(t *testing.T) {
	for _, one := range []string{"x", "\xff", "\u00e9", "\u20ac"} {
		for _, n := range []int{84, 85, 86, 127, 128, 129, 254, 255, 256, 257, 258, 1000} {
			text := strings.Repeat(one, n)
			want := osc(text[:min(len(text), texts)])
			for _, end := range []struct {
				in     string
				more   []api.Seq
				ground bool
			}{{"\x07", nil, true}, {"\x1b", nil, false}, {"\x1b\\", seqs(esc("", '\\')), true}} {
				got := parse.All([]byte("\x1b]" + text + "\n\x7f" + end.in))
				if !alike(got, append(seqs(want), end.more...)) {
					t.Errorf("%d of %q: %v", n, one, got)
				}
			}
			checkAll(t, "\x1b]"+text+"\x07\x1b]y\x07")
			checkAll(t, "\x1b]"+text+"\x18z")
		}
	}
}

// P23.1: string.
func TestString(t *testing.T) {
	for _, first := range []string{"P", "X", "^", "_"} {
		wantRows(t,
			row{"\x1b" + first, nil, false},
			row{"\x1b" + first + "junk\x07\x00\n\x1f\x7f~[1m]\x80\xff\u00e9", nil, false},
			row{"\x1b" + first + "junk\x07\x1b\\z", seqs(esc("", '\\'), prints('z')), true},
			row{"\x1b" + first + "junk\x1b[1m", seqs(csi(0, "", 'm', 1)), true},
			row{"\x1b" + first + "junk\x18z", seqs(prints('z')), true},
			row{"\x1b" + first + "\x1az", seqs(prints('z')), true},
			row{"\x1b" + first + "\xc3\x18z", seqs(prints('z')), true},
			row{"\x1b\n" + first + "\n\x18z", seqs(execs('\n'), prints('z')), true},
			row{"\x1b" + first + "\x1b]a\x07", seqs(osc("a")), true},
		)
	}
}

// P23.1: nothing is told at the end of bytes: neither what waits of a rune nor what isn't ended.
func TestAllOfPieces(t *testing.T) {
	wantRows(t,
		row{"a\xe2\x82", seqs(prints('a')), false},
		row{"\x1b]x", nil, false},
		row{"a\x1b[1", seqs(prints('a')), false},
		row{"a\x1b", seqs(prints('a')), false},
	)
}

// states are bytes that lead a fresh parser to any state, with all kinds of things taken.
func states() []string {
	return []string{
		"", "a", "\xc3", "\xe2\x82", "\xf0\x9f\x98",
		"\x1b", "\x1b(", "\x1b()", "\x1b()*", "\x1b\n",
		"\x1b[", "\x1b[?", "\x1b[1", "\x1b[;", "\x1b[?1;22", "\x1b[9999", "\x1b[1 ", "\x1b[ !", "\x1b[ !\"", "\x1b[1?", "\x1b[" + semis(15) + "3", "\x1b[" + semis(16) + "3",
		"\x1b]", "\x1b]0;a", "\x1b]" + strings.Repeat("x", texts-1), "\x1b]" + strings.Repeat("x", texts),
		"\x1bP", "\x1bXabc", "\x1b^\x80", "\x1b_\n",
	}
}

// edges are bytes at the bounds of what has a meaning, on either side.
func edges() string {
	return "\x00\x06\x07\x08\x0a\x17\x18\x19\x1a\x1b\x1c\x1f !/09:;<?@APX[\\]^_~\x7f\x80\x9b\xa9\xac\xc3\xe2\xff"
}

// P23.3: from whatever state, 18 or 1a leads to ground; nothing but ground's own is told of it.
func TestCancel(t *testing.T) {
	for _, ahead := range states() {
		for _, c := range []byte{0x18, 0x1a} {
			p := fed(ahead)
			var want []api.Seq
			switch {
			case p.Ground():
				want = seqs(execs(c))
			case ahead[0] != 0x1b:
				want = seqs(prints(bad), execs(c))
			}
			if got := p.Feed(c); !alike(got, want) || !p.Ground() {
				t.Errorf("behind %q %x told %v, ground %v", ahead, c, got, p.Ground())
			}
			if p != (parse.Parser{}) {
				t.Errorf("behind %q and %x something is left: %v", ahead, c, p)
			}
		}
	}
}

// P23.1: a parser in ground is as a zero one, whatever it was fed.
func TestNothingIsLeft(t *testing.T) {
	for _, ahead := range states() {
		for c := range 256 {
			p := fed(ahead)
			p.Feed(byte(c))
			if p.Ground() && p != (parse.Parser{}) {
				t.Errorf("behind %q and %x something is left: %v", ahead, c, p)
			}
		}
	}
}

// P23.1: each byte, and each one at a bound behind it, in each state.
func TestEachByte(t *testing.T) {
	for _, ahead := range states() {
		for c := range 256 {
			text := ahead + string([]byte{byte(c)})
			checkAll(t, text)
			for _, behind := range []byte(edges()) {
				checkAll(t, text+string([]byte{behind})+"\x1b[m")
			}
		}
	}
}

// P23.1: all rows of three bytes at the bounds, in each kind of sequence.
func TestRows(t *testing.T) {
	for _, ahead := range []string{"", "\xe2", "\x1b", "\x1b(", "\x1b[", "\x1b[1", "\x1b[1 ", "\x1b]", "\x1bP"} {
		for _, a := range []byte(edges()) {
			for _, b := range []byte(edges()) {
				for _, c := range []byte(edges()) {
					checkAll(t, ahead+string([]byte{a, b, c}))
				}
			}
		}
	}
}

// P23.1: all rows of four bytes of the kinds that a sequence has, with an end.
func TestSequences(t *testing.T) {
	kinds := []string{"1", "09", ":", ";", "?", ">", " ", "/", "\n", "\x7f"}
	for i := range len(kinds) * len(kinds) * len(kinds) * len(kinds) {
		body := ""
		for range 4 {
			body += kinds[i%len(kinds)]
			i /= len(kinds)
		}
		checkAll(t, "\x1b["+body+"m\x1b"+body+"8")
	}
}

// anyText is up to n bytes, of any kind or those at the bounds, and whole sequences.
func anyText(c *rand.Rand, n int) string {
	var b []byte
	whole := []string{"\x1b[", "\x1b[?", "\x1b]", "\x1bP", "\x1b(", "12", ";3", "99999", "\u20ac", "\U0001f600", "\x1b\\", "\x07", semis(14)}
	for range c.IntN(n + 1) {
		switch c.IntN(4) {
		case 0:
			b = append(b, byte(c.IntN(256)))
		case 1:
			b = append(b, whole[c.IntN(len(whole))]...)
		default:
			b = append(b, edges()[c.IntN(len(edges()))])
		}
	}
	return string(b)
}

// P23.1, P23.3: any bytes, one by one.
func TestAnyBytes(t *testing.T) {
	c := rand.New(rand.NewPCG(23, 1))
	for range 20000 {
		check(t, anyText(c, 20))
	}
	for range 200 {
		checkAll(t, anyText(c, 3000))
	}
}

// P23.1: what is told of long rows, and what is kept of them.
func TestLongRows(t *testing.T) {
	many := 1 << 16
	for _, x := range []struct {
		in   string
		want []api.Seq
	}{
		{"\x1b[" + strings.Repeat("9", many) + "m", seqs(csi(0, "", 'm', last))},
		{"\x1b[" + semis(many) + "m", seqs(csi(0, "", 'm', outs(16)...))},
		{"\x1b[1" + strings.Repeat(" ", many) + "m", nil},
		{"\x1b" + strings.Repeat(" ", many) + "m", nil},
		{"\x1b[" + strings.Repeat("?", many) + "m", nil},
		{"\x1b]" + strings.Repeat("x", many) + "\x07", seqs(osc(strings.Repeat("x", texts)))},
		{"\x1bP" + strings.Repeat("x", many) + "\x18", nil},
		{strings.Repeat("\x1b", many) + "7", seqs(esc("", '7'))},
		{strings.Repeat("\x80", many), slices.Repeat(seqs(prints(bad)), many)},
		{"\x1b[" + strings.Repeat("\n", many) + "?h", append(slices.Repeat(seqs(execs('\n')), many), csi('?', "", 'h'))},
	} {
		if got := parse.All([]byte(x.in)); !alike(got, x.want) {
			t.Errorf("of %q and so on %d are told", x.in[:9], len(got))
		}
	}
}

// isInter, isFinal and so on tell by the words what a sequence of a form may have.
func isInter(inter string) bool { return regexp.MustCompile(`^[ -/]{0,2}\z`).MatchString(inter) }

func isParams(l []int) bool {
	for _, n := range l {
		if n < -1 || n > last {
			return false
		}
	}
	return len(l) <= places && (len(l) != 1 || l[0] != -1)
}

func isText(text string) bool {
	for i := range len(text) {
		if text[i] < 0x20 || text[i] == 0x7f {
			return false
		}
	}
	return len(text) <= formed
}

func isRune(r rune) bool {
	return r >= 0x20 && r <= lastOne && r != 0x7f && r != bad && (r < 0xd800 || r > 0xdfff)
}

// paramText is parameters as text.
func paramText(l []int) string {
	var parts []string
	for _, n := range l {
		if n == -1 {
			parts = append(parts, "")
		} else {
			parts = append(parts, strconv.Itoa(n))
		}
	}
	return strings.Join(parts, ";")
}

// wordsForm is by the words what s has as its form.
func wordsForm(s api.Seq) (string, bool) {
	priv := ""
	if s.Priv != 0 {
		priv = string(rune(s.Priv))
	}
	final := string([]byte{s.Final})
	switch s.Kind {
	case 1:
		return string(s.R), isRune(s.R) && same(s, prints(s.R))
	case 2:
		return final, s.Final < 0x20 && s.Final != 0x1b && same(s, execs(s.Final))
	case 3:
		ends := s.Final >= 0x30 && s.Final <= 0x7e && (s.Inter != "" || !strings.Contains("[]PX^_", final))
		return "\x1b" + s.Inter + final, ends && isInter(s.Inter) && same(s, esc(s.Inter, s.Final))
	case 4:
		right := s.Final >= 0x40 && s.Final <= 0x7e && (s.Priv == 0 || s.Priv >= 0x3c && s.Priv <= 0x3f)
		return "\x1b[" + priv + paramText(s.Params) + s.Inter + final, right && isInter(s.Inter) && isParams(s.Params) && same(s, csi(s.Priv, s.Inter, s.Final, s.Params...))
	case 5:
		return "\x1b]" + s.Text + "\x07", isText(s.Text) && same(s, osc(s.Text))
	}
	return "", false
}

// checkForm holds Form against the words; by what it answers a parser in ground tells s alone, and is in ground behind.
func checkForm(t *testing.T, s api.Seq) {
	t.Helper()
	want, has := wordsForm(s)
	if !has {
		want = ""
	}
	got, ok := parse.Form(s)
	if string(got) != want || ok != has {
		t.Fatalf("Form(%v) = %q, %v, want %q, %v", s, got, ok, want, has)
	}
	if !has {
		return
	}
	p := fed(string(got))
	if l := parse.All(got); len(l) != 1 || !same(l[0], s) || !p.Ground() {
		t.Fatalf("%q tells %v, ground %v; want %v alone", got, l, p.Ground(), s)
	}
}

// P23.2: Form, of sequences whose bytes are known.
func TestForm(t *testing.T) {
	for _, x := range []struct {
		s    api.Seq
		want string
	}{
		{prints(' '), " "},
		{prints('~'), "~"},
		{prints(0x80), "\xc2\x80"},
		{prints(0x9f), "\xc2\x9f"},
		{prints(0x20ac), "\xe2\x82\xac"},
		{prints(0xfffc), "\xef\xbf\xbc"},
		{prints(0xfffe), "\xef\xbf\xbe"},
		{prints(lastOne), "\xf4\x8f\xbf\xbf"},
		{execs(0), "\x00"},
		{execs(7), "\x07"},
		{execs(0x18), "\x18"},
		{execs(0x1a), "\x1a"},
		{execs(0x1f), "\x1f"},
		{esc("", '7'), "\x1b7"},
		{esc("", '\\'), "\x1b\\"},
		{esc("(", '0'), "\x1b(0"},
		{esc("(", '['), "\x1b(["},
		{esc(" /", '~'), "\x1b /~"},
		{csi(0, "", 'm'), "\x1b[m"},
		{csi(0, "", '@', 0), "\x1b[0@"},
		{csi(0, "", 'm', 31, 4), "\x1b[31;4m"},
		{csi(0, "", '~', last), "\x1b[9999~"},
		{csi(0, "", 'm', -1, -1), "\x1b[;m"},
		{csi(0, "", 'm', 1, -1), "\x1b[1;m"},
		{csi(0, "", 'm', -1, 1), "\x1b[;1m"},
		{csi(0, "", 'm', -1, -1, -1), "\x1b[;;m"},
		{csi('?', "", 'h', 25), "\x1b[?25h"},
		{csi('<', "", '['), "\x1b[<["},
		{csi('?', "$", 'p', -1, 7), "\x1b[?;7$p"},
		{csi(0, " /", ']', 2), "\x1b[2 /]"},
		{csi(0, "", 'm', outs(16)...), "\x1b[" + semis(15) + "m"},
		{csi('>', "!!", 'z', outs(15, 3)...), "\x1b[>" + semis(15) + "3!!z"},
		{osc(""), "\x1b]\x07"},
		{osc("0;hi"), "\x1b]0;hi\x07"},
		{osc(" ~\x80\xff\u00e9"), "\x1b] ~\x80\xff\xc3\xa9\x07"},
		{osc(strings.Repeat("x", formed)), "\x1b]" + strings.Repeat("x", formed) + "\x07"},
	} {
		if got, ok := parse.Form(x.s); !ok || string(got) != x.want {
			t.Errorf("Form(%v) = %q, %v, want %q", x.s, got, ok, x.want)
		}
		checkForm(t, x.s)
	}
}

// P23.2: Form, of what has none.
func TestFormOfNone(t *testing.T) {
	for _, s := range []api.Seq{
		{}, {Kind: 6}, {Kind: -1}, {Kind: math.MaxInt}, {Kind: math.MinInt}, {Kind: 6, R: 'a'}, {R: 'a'}, {Final: 7},
		prints(0), prints(7), prints(0x1b), prints(0x1f), prints(0x7f), prints(bad), prints(-1), prints(0xd800), prints(0xdfff), prints(lastOne + 1), prints(math.MaxInt32), prints(math.MinInt32),
		execs(0x1b), execs(0x20), execs('a'), execs(0x7f), execs(0x80), execs(0xff),
		esc("", 0), esc("", 0x2f), esc("", 0x7f), esc("", 0x80), esc("(", 0x1b), esc("(", ' '),
		esc("", '['), esc("", ']'), esc("", 'P'), esc("", 'X'), esc("", '^'), esc("", '_'),
		esc("(((", '0'), esc("0", '0'), esc("(0", '0'), esc("0(", '0'), esc("\n", '0'), esc("(\n", '0'), esc("\x7f", '0'), esc("\x1b", '0'), esc("\u00e9", '0'), esc("\x1f", '0'),
		csi(0, "", 0), csi(0, "", 0x3f), csi(0, "", '1'), csi(0, "", 0x7f), csi(0, "", 0x80), csi(0, "", 0x1b),
		csi(';', "", 'm'), csi('@', "", 'm'), csi('1', "", 'm'), csi(1, "", 'm'), csi(0xff, "", 'm'),
		csi(0, "(((", 'm'), csi(0, "1", 'm'), csi(0, " 1", 'm'), csi(0, "?", 'm'), csi(0, "\n", 'm'), csi(0, "\x80", 'm'),
		csi(0, "", 'm', -1), csi('?', "", 'm', -1), csi(0, "$", 'm', -1), csi(0, "", 'm', -2), csi(0, "", 'm', 10000), csi(0, "", 'm', 1, 10000), csi(0, "", 'm', 1, -2), csi(0, "", 'm', math.MinInt, 1), csi(0, "", 'm', math.MaxInt),
		csi(0, "", 'm', outs(17)...), csi(0, "", 'm', outs(16, 3)...), csi(0, "", 'm', outs(1<<16)...),
		osc("\x07"), osc("a\nb"), osc("\x1b"), osc("\x18"), osc("\x1f"), osc("a\x7f"), osc("\x00"), osc(strings.Repeat("x", formed+1)), osc(strings.Repeat("x", 1<<16)), osc(strings.Repeat("\u00e9", 128)), osc(strings.Repeat("x", 254) + "\n"),
	} {
		if got, ok := parse.Form(s); ok || len(got) > 0 {
			t.Errorf("Form(%v) = %q, %v", s, got, ok)
		}
		checkForm(t, s)
	}
}

// P23.2: Form is false of what isn't named.
func TestFormOfOthers(t *testing.T) {
	for _, s := range []api.Seq{prints('a'), execs(7), esc("", '7'), esc("(", '0'), csi(0, "", 'm'), csi('?', " ", 'm', 1, 2), osc(""), osc("hi")} {
		checkForm(t, s)
		for _, x := range []func(s *api.Seq){
			func(s *api.Seq) { s.R = 'b' },
			func(s *api.Seq) { s.R = -1 },
			func(s *api.Seq) { s.Priv = '?' },
			func(s *api.Seq) { s.Priv = 1 },
			func(s *api.Seq) { s.Inter = "!" },
			func(s *api.Seq) { s.Inter = "\x00" },
			func(s *api.Seq) { s.Params = []int{1} },
			func(s *api.Seq) { s.Params = []int{0, 0} },
			func(s *api.Seq) { s.Params = []int{-1} },
			func(s *api.Seq) { s.Params = []int{} },
			func(s *api.Seq) { s.Final = 'q' },
			func(s *api.Seq) { s.Final = 7 },
			func(s *api.Seq) { s.Final = 0 },
			func(s *api.Seq) { s.Text = "x" },
			func(s *api.Seq) { s.Text = "\x00" },
			func(s *api.Seq) { s.Kind = 0 },
			func(s *api.Seq) { s.Kind++ },
			func(s *api.Seq) { s.Kind-- },
		} {
			other := s
			x(&other)
			checkForm(t, other)
		}
	}
}

// P23.2: Form, of each rune there is, and of each byte at each place.
func TestFormOfEach(t *testing.T) {
	for r := rune(-300); r <= lastOne+300; r++ {
		checkForm(t, prints(r))
	}
	for c := range 256 {
		b := byte(c)
		one := string([]byte{b})
		for _, s := range []api.Seq{execs(b), esc("", b), esc("(", b), esc("()", b), esc(one, '0'), esc(one+"(", '0'), esc("("+one, '['), csi(0, "", b), csi('?', "", b, 1), csi(b, "", 'm'), csi(b, "!", 'm', 1), csi(0, one, 'm', 2), csi(0, "!"+one, 'm'), csi(0, one+"!", 'm'), osc(one), osc("a" + one + "b"), osc(one + "c")} {
			checkForm(t, s)
		}
	}
	for n := -3; n < 10100; n++ {
		checkForm(t, csi(0, "", 'm', n))
		checkForm(t, csi(0, "", 'm', 1, n))
	}
	for n := range 300 {
		checkForm(t, osc(strings.Repeat("x", n)))
		checkForm(t, csi(0, "", 'm', slices.Repeat([]int{n}, n)...))
		checkForm(t, csi('?', "", 'm', outs(n)...))
		checkForm(t, esc(strings.Repeat("!", n), '0'))
		checkForm(t, csi(0, strings.Repeat("!", n), '@'))
	}
}

// anySeq is a sequence of which most parts are near to what has a form.
func anySeq(c *rand.Rand) api.Seq {
	s := api.Seq{Kind: c.IntN(7)}
	few := func(n int) bool { return c.IntN(n) == 0 }
	if s.Kind == 1 || few(20) {
		s.R = rune(c.IntN(1 << (1 + c.IntN(21))))
	}
	if s.Kind == 4 && few(2) || few(20) {
		s.Priv = byte(0x3a + c.IntN(7))
	}
	if (s.Kind == 3 || s.Kind == 4) && few(2) || few(20) {
		for range c.IntN(4) {
			s.Inter += string([]byte{byte(0x1f + c.IntN(18))})
		}
	}
	if s.Kind == 4 || few(20) {
		for range c.IntN(18) {
			s.Params = append(s.Params, c.IntN(12000)/(1+c.IntN(3000))-1)
		}
	}
	if s.Kind > 1 && s.Kind < 5 || few(20) {
		s.Final = byte(c.IntN(1 << (5 + c.IntN(4))))
	}
	if s.Kind == 5 || few(20) {
		s.Text = anyText(c, 9)
	}
	return s
}

// P23.2: Form, of any sequences.
func TestFormOfAny(t *testing.T) {
	c := rand.New(rand.NewPCG(23, 2))
	for range 200000 {
		checkForm(t, anySeq(c))
	}
}

// P23.2: forms one behind the other tell the sequences one behind the other; so is each one that is told, but Bad and the longest texts.
func TestFormsTogether(t *testing.T) {
	c := rand.New(rand.NewPCG(23, 3))
	for range 3000 {
		var all []byte
		var want []api.Seq
		for range c.IntN(20) {
			s := anySeq(c)
			if b, ok := parse.Form(s); ok {
				all, want = append(all, b...), append(want, s)
			}
		}
		if got := parse.All(all); !alike(got, want) {
			t.Fatalf("%q tells %v, want %v", all, got, want)
		}
		for _, s := range parse.All([]byte(anyText(c, 60))) {
			if _, ok := parse.Form(s); ok != (s.R != bad && len(s.Text) <= formed) {
				t.Fatalf("%v has a form: %v", s, ok)
			}
		}
	}
}

// spoil writes over a list of sequences, what lies behind it, and the lists in it.
func spoil(l []api.Seq) {
	l = l[:cap(l)]
	for i := range l {
		params := l[i].Params[:cap(l[i].Params)]
		for k := range params {
			params[k] = 77
		}
		l[i] = api.Seq{Kind: 77, Params: []int{77}}
	}
}

// R4: what is answered may be written over.
func TestMemory(t *testing.T) {
	c := rand.New(rand.NewPCG(23, 4))
	for range 2000 {
		text := anyText(c, 30)
		var p, q parse.Parser
		for i := range len(text) {
			got, want := p.Feed(text[i]), q.Feed(text[i])
			if !alike(got, want) {
				t.Fatalf("%q, byte %d: %v, want %v", text, i, got, want)
			}
			spoil(got)
		}
		want, _ := words(text)
		spoil(parse.All([]byte(text)))
		if got := parse.All([]byte(text)); !alike(got, want) {
			t.Fatalf("All(%q) = %v, want %v", text, got, want)
		}
	}
	s := csi('?', "$", 'p', -1, 7)
	b, _ := parse.Form(s)
	b = b[:cap(b)]
	for i := range b {
		b[i] = '#'
	}
	checkForm(t, s)
}

// R4: no two lists that are answered have memory in common.
func TestApart(t *testing.T) {
	text := []byte("\x1b[1;2m\x1b[3;4m\x1b[5;6m")
	l := parse.All(text)
	for i := range l[0].Params[:cap(l[0].Params)] {
		l[0].Params[:cap(l[0].Params)][i] = 77
	}
	_ = append(l[1].Params, 88, 99)
	if !alike(l[1:], seqs(csi(0, "", 'm', 3, 4), csi(0, "", 'm', 5, 6))) {
		t.Errorf("the others became %v", l[1:])
	}
	var p parse.Parser
	var first []api.Seq
	for _, c := range text[:6] {
		first = append(first, p.Feed(c)...)
	}
	for _, c := range text[6:] {
		p.Feed(c)
	}
	if !alike(first, seqs(csi(0, "", 'm', 1, 2))) {
		t.Errorf("the first became %v", first)
	}
}

// R4: what is handed in isn't changed nor kept, and what lies behind it isn't read.
func TestHandedIn(t *testing.T) {
	room := []byte("x\x1b]hi\x07?")
	was := slices.Clone(room)
	got := parse.All(room[1:5])
	if len(got) != 0 {
		t.Errorf("what lies behind is read: %v", got)
	}
	got = parse.All(room[1:6])
	if string(room) != string(was) {
		t.Errorf("what was handed in is changed: %q", room)
	}
	copy(room, "########")
	if !alike(got, seqs(osc("hi"))) {
		t.Errorf("what was told became %v", got)
	}
	params := []int{1, 2, 3, 4}
	b, ok := parse.Form(csi(0, "", 'm', params[1:3]...))
	if !ok || string(b) != "\x1b[2;3m" || !slices.Equal(params, []int{1, 2, 3, 4}) {
		t.Errorf("Form = %q, %v, and %v was handed in", b, ok, params)
	}
	params[1] = 9
	if string(b) != "\x1b[2;3m" {
		t.Errorf("Form became %q", b)
	}
}

// R6: two parsers have nothing in common, and one that is taken by its value goes on by itself.
func TestParsersApart(t *testing.T) {
	for _, ahead := range states() {
		for _, behind := range []string{"1;2m", "a\x07", " q", "\xac", "(0", "\n\x18"} {
			p := fed(ahead)
			q, other := p, fed("\x1b[4")
			var told []api.Seq
			for _, c := range []byte("3$\x1b]zzz\x07\xe2") {
				q.Feed(c)
				other.Feed(c)
			}
			for _, c := range []byte(behind) {
				told = append(told, p.Feed(c)...)
			}
			whole, _ := words(ahead + behind)
			begun, _ := words(ahead)
			if !alike(append(begun, told...), whole) {
				t.Errorf("%q and %q: told %v", ahead, behind, told)
			}
		}
	}
}

// R6: Ground changes nothing.
func TestGroundAsks(t *testing.T) {
	for _, ahead := range states() {
		p := fed(ahead)
		was, ground := p, p.Ground()
		if p.Ground() != ground || p != was {
			t.Errorf("behind %q Ground changed something", ahead)
		}
	}
}

// P1, R1: every call ends and none panics, at any argument, and all is as the words tell.
func FuzzAll(f *testing.F) {
	f.Add([]byte("a\xe2\x82\x1b[?1;;2 q\x1b]0;x\x1b\\"), 4, int32(0), byte('?'), "$", -1, 7, byte('p'), "")
	f.Add([]byte("\x1b[1\n?2m\x1b(0\x1bPx\x18\x9b"), 3, int32(0), byte(0), "(", 0, 0, byte('['), "")
	f.Add([]byte("\x1b    F\x1b]\xff\x07"), 5, int32(0), byte(0), "", 0, 0, byte(0), "\xff")
	f.Add([]byte{}, 1, int32(0xd800), byte(0), "", 0, 0, byte(0), "")
	f.Fuzz(func(t *testing.T, b []byte, kind int, r int32, priv byte, inter string, first, second int, final byte, text string) {
		check(t, string(b[:min(len(b), 100)]))
		checkAll(t, string(b[:min(len(b), 3000)]))
		s := api.Seq{Kind: kind, R: r, Priv: priv, Inter: inter, Final: final, Text: text}
		checkForm(t, s)
		s.Params = []int{first}
		checkForm(t, s)
		s.Params = []int{first, second}
		checkForm(t, s)
	})
}

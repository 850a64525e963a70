package parse

import (
	"slices"
	"strconv"
	"unicode/utf8"

	"betony/api"
	"betony/utf"
)

// mostFormed is how many bytes a text has at most of which Form makes bytes.
const mostFormed = 255

// Form makes bytes by which a parser in ground tells s alone, and is in ground behind; false: it makes none of s.
func Form(s api.Seq) ([]byte, bool) {
	switch {
	case isPrint(s):
		return utf.Put(s.R), true
	case isExec(s):
		return []byte{s.Final}, true
	case isEsc(s):
		return append(append([]byte{escape}, s.Inter...), s.Final), true
	case isCsi(s):
		return csi(s), true
	case isOsc(s):
		return append(append([]byte{escape, ']'}, s.Text...), bell), true
	}
	return nil, false
}

// csi makes the bytes of a right control sequence.
func csi(s api.Seq) []byte {
	b := []byte{escape, '['}
	if s.Priv != 0 {
		b = append(b, s.Priv)
	}
	for i, n := range s.Params {
		if i > 0 {
			b = append(b, ';')
		}
		if n != leftOut {
			b = strconv.AppendInt(b, int64(n), 10)
		}
	}
	return append(append(b, s.Inter...), s.Final)
}

// isPrint tells whether s is a rune that is told by its bytes, and nothing else.
func isPrint(s api.Seq) bool {
	return same(s, api.Seq{Kind: api.SeqPrint, R: s.R}) &&
		s.R >= blank && s.R != remove && s.R != api.Bad && utf8.ValidRune(s.R)
}

// isExec tells whether s is a control, and nothing else.
func isExec(s api.Seq) bool {
	return same(s, api.Seq{Kind: api.SeqExec, Final: s.Final}) &&
		s.Final < blank && s.Final != escape
}

// isEsc tells whether s is a right sequence behind an escape, and nothing else.
func isEsc(s api.Seq) bool {
	return same(s, api.Seq{Kind: api.SeqEsc, Inter: s.Inter, Final: s.Final}) &&
		rightInter(s.Inter) && within(s.Final, firstEsc, lastFinal) &&
		(s.Inter != "" || opened(s.Final) == inGround)
}

// isCsi tells whether s is a right control sequence, and nothing else.
func isCsi(s api.Seq) bool {
	return same(s, api.Seq{Kind: api.SeqCsi, Priv: s.Priv, Inter: s.Inter, Params: s.Params, Final: s.Final}) &&
		(s.Priv == 0 || within(s.Priv, firstMarker, lastMarker)) &&
		rightInter(s.Inter) && rightParams(s.Params) && within(s.Final, firstCsi, lastFinal)
}

// isOsc tells whether s is a text that comes whole, and nothing else.
func isOsc(s api.Seq) bool {
	left := func(c byte) bool { return !inText(c) }
	return same(s, api.Seq{Kind: api.SeqOsc, Text: s.Text}) &&
		len(s.Text) <= mostFormed && !slices.ContainsFunc([]byte(s.Text), left)
}

// rightInter tells whether a sequence may have these intermediates.
func rightInter(inter string) bool {
	wrong := func(c byte) bool { return !within(c, firstInter, lastInter) }
	return len(inter) <= mostInter && !slices.ContainsFunc([]byte(inter), wrong)
}

// rightParams tells whether a sequence may have these parameters.
func rightParams(l []int) bool {
	wrong := func(n int) bool { return n < leftOut || n > lastParam }
	// One that is left out is told by what stands ahead of others, or behind: alone it isn't told.
	alone := len(l) == 1 && l[0] == leftOut
	return len(l) <= api.MaxParams && !alone && !slices.ContainsFunc(l, wrong)
}

// same tells whether two sequences are one.
func same(a, b api.Seq) bool {
	return a.Kind == b.Kind && a.R == b.R && a.Priv == b.Priv && a.Inter == b.Inter &&
		slices.Equal(a.Params, b.Params) && a.Final == b.Final && a.Text == b.Text
}

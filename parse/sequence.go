package parse

import "betony/api"

// The bounds of what stands in sequences.
const (
	firstInter  = 0x20
	lastInter   = 0x2f
	firstMarker = 0x3c
	lastMarker  = 0x3f
	firstEsc    = 0x30 // final bytes behind an escape
	firstCsi    = 0x40 // and of a control sequence
	lastFinal   = 0x7e
)

// mostInter is how many intermediates a sequence has at most.
const mostInter = 2

// A parameter is a number up to the last one, or is left out.
const (
	leftOut   = -1
	lastParam = 9999
)

// sequence is what was taken of a sequence.
type sequence struct {
	priv   byte
	inter  string
	params [api.MaxParams]int
	begun  int // how many parameters began; of those that have no place the first alone is counted
	spoilt bool
}

// spoil is the panic of a byte that spoils a sequence.
type spoil struct{}

// ask spoils the sequence, unless ok.
func ask(ok bool) {
	if !ok {
		panic(spoil{})
	}
}

// within tells whether c is from low to high.
func within(c, low, high byte) bool { return low <= c && c <= high }

// take takes a byte ahead of the final one.
func (s *sequence) take(c byte) {
	defer func() {
		switch x := recover().(type) {
		case nil:
		case spoil:
			s.spoilt = true
		default:
			// No byte is at fault, but the parser: that is to be seen.
			panic(x)
		}
	}()
	s.add(c)
}

// add adds a byte to what it belongs to; it spoils the sequence where it doesn't belong.
func (s *sequence) add(c byte) {
	if c <= lastInter {
		ask(len(s.inter) < mostInter)
		s.inter += string(rune(c))
		return
	}
	ask(s.inter == "")
	switch {
	case c <= '9':
		s.digit(int(c - '0'))
	case c < firstMarker:
		s.further()
	default:
		ask(s.priv == 0 && s.begun == 0)
		s.priv = c
	}
}

// digit adds a digit to the last parameter, which may be the first one.
func (s *sequence) digit(d int) {
	if s.begun == 0 {
		s.begin()
	}
	if s.begun > len(s.params) {
		return
	}
	last := &s.params[s.begun-1]
	*last = min(max(*last, 0)*10+d, lastParam)
}

// further begins a parameter behind the last one, which may be the first one.
func (s *sequence) further() {
	if s.begun == 0 {
		s.begin()
	}
	s.begin()
}

// begin begins a parameter.
func (s *sequence) begin() {
	if s.begun < len(s.params) {
		s.params[s.begun] = leftOut
	}
	s.begun = min(s.begun+1, len(s.params)+1)
}

// list is the parameters, by themselves.
func (s *sequence) list() []int {
	return append([]int(nil), s.params[:min(s.begun, len(s.params))]...)
}

package ldisc

import (
	"betony/api"
	"betony/termios"
)

const (
	// stripped is what Istrip leaves of a byte.
	stripped = 0x7f
	// rubout is the control that isn't below the blank.
	rubout = 0x7f
	// turned is the bit by which a control and the sign in its picture differ.
	turned = 0x40
	// bell tells that something is lost.
	bell = 0x07
	// wiped takes one sign off what is shown.
	wiped = "\b \b"
	// quoting is shown while the discipline waits: the next byte's picture comes over it.
	quoting = "^\b"
)

// step is what one byte of input does to a discipline: what is shown, and a signal.
type step struct {
	*Disc
	echo []byte
	sig  int
}

// come does what the byte c of input does.
func (s *step) come(c byte) {
	if s.in(api.Istrip) {
		c &= stripped
	}
	if s.waits {
		s.waits = false
		s.put(c)
		return
	}
	c, some := termios.Map(s.t, c)
	if some && !s.flow(c) && !s.signal(c) {
		s.look(c)
	}
}

// flow lets c stop the output, or go on with it; it tells whether c has done all it does.
func (s *step) flow(c byte) bool {
	switch {
	case !s.in(api.Ixon):
		return false
	case s.is(api.Vstop, c):
		s.stopped = true
		return true
	case s.is(api.Vstart, c):
		s.stopped = false
		return true
	}
	if s.in(api.Ixany) {
		s.stopped = false
	}
	return false
}

// signal tells whether c makes a signal.
func (s *step) signal(c byte) bool {
	switch {
	case !s.local(api.Isig):
		return false
	case s.is(api.Vintr, c):
		s.sig = api.SigInt
	case s.is(api.Vquit, c):
		s.sig = api.SigQuit
	case s.is(api.Vsusp, c):
		s.sig = api.SigTstp
	default:
		return false
	}
	s.show(c)
	if !s.local(api.Noflsh) {
		s.Flush()
		s.stopped = false
	}
	return true
}

// look looks for the special characters that edit a line, first those of Iexten; what is none is put.
func (s *step) look(c byte) {
	switch {
	case s.local(api.Icanon | api.Iexten):
		if s.extended(c) {
			return
		}
		fallthrough
	case s.local(api.Icanon):
		if s.edited(c) {
			return
		}
		fallthrough
	default:
		s.put(c)
	}
}

// extended tells whether c is a special character of Iexten, and does what it does.
func (s *step) extended(c byte) bool {
	switch {
	case s.is(api.Vlnext, c):
		s.waits = true
		if s.local(api.Echo) {
			s.echo = append(s.echo, quoting...)
		}
	case s.is(api.Vwerase, c):
		s.takeBack(blank)
		s.takeBack(func(last byte) bool { return !blank(last) })
	case s.is(api.Vreprint, c):
		s.show(c)
		s.show('\n')
		for _, b := range s.line() {
			s.show(b)
		}
	default:
		return false
	}
	return true
}

// blank tells whether c is a blank or a tab.
func blank(c byte) bool { return c == ' ' || c == '\t' }

// edited tells whether c takes bytes back, or makes the line ready, and does so.
func (s *step) edited(c byte) bool {
	switch {
	case s.is(api.Verase, c):
		left := 1
		s.erase(c, func(byte) bool {
			left--
			return left == 0
		})
	case s.is(api.Vkill, c):
		s.erase(c, func(byte) bool { return true })
		if s.local(api.Echok) {
			s.show('\n')
		}
	case s.is(api.Veof, c):
		s.end()
	case s.ends(c):
		if s.put(c) {
			s.end()
		}
	default:
		return false
	}
	return true
}

// ends tells whether c stands at the end of a line.
func (s *step) ends(c byte) bool { return c == '\n' || s.is(api.Veol, c) }

// erase takes back what more tells; where that can't be seen c is shown.
func (s *step) erase(c byte, more func(last byte) bool) {
	s.takeBack(more)
	if !s.local(api.Echoe) {
		s.show(c)
	}
}

// takeBack takes bytes off the line's end, as long as more tells so of the last one.
func (s *step) takeBack(more func(last byte) bool) {
	for line := s.line(); len(line) > 0 && more(line[len(line)-1]); line = s.line() {
		if s.local(api.Echo | api.Echoe) {
			for range s.picture(line[len(line)-1]) {
				s.echo = append(s.echo, wiped...)
			}
		}
		s.input = s.input[:len(s.input)-1]
	}
}

// end makes the line ready, if there is room for it.
func (s *step) end() {
	n := len(s.line())
	if s.ready+n > api.MaxInput {
		s.input = s.input[:s.ready]
		s.lose()
		return
	}
	s.ready += n
	s.lines = append(s.lines, n)
}

// put puts c behind the line, or, without Icanon, behind the ready bytes; false: it is lost.
func (s *step) put(c byte) bool {
	if !s.room(c) {
		s.lose()
		return false
	}
	s.input = append(s.input, c)
	if !s.local(api.Icanon) {
		s.ready = len(s.input)
	}
	if c == '\n' && s.local(api.Echonl|api.Icanon) && !s.local(api.Echo) {
		s.echo = append(s.echo, c)
	}
	s.show(c)
	return true
}

// room tells whether c may be put: of a line the last place is kept for what ends it.
func (s *step) room(c byte) bool {
	switch {
	case !s.local(api.Icanon):
		return s.ready < api.MaxInput
	case s.ends(c):
		return len(s.line()) < api.MaxCanon
	}
	return len(s.line()) < api.MaxCanon-1
}

// lose tells, with Imaxbel, that something is lost.
func (s *step) lose() {
	if s.in(api.Imaxbel) {
		s.echo = append(s.echo, bell)
	}
}

// show shows c, with Echo.
func (s *step) show(c byte) {
	if s.local(api.Echo) {
		s.echo = append(s.echo, s.picture(c)...)
	}
}

// picture is how c looks when it is shown.
func (s *step) picture(c byte) []byte {
	if s.local(api.Echoctl) && (c < ' ' && c != '\t' && c != '\n' || c == rubout) {
		return []byte{'^', c ^ turned}
	}
	return []byte{c}
}

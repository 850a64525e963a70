package pty

import (
	"betony/api"
	"betony/ldisc"
	"betony/opost"
)

// outRoom is how many bytes may go out, till the master reads them.
const outRoom = 4096

// Flags of packets: what the master is told besides bytes.
const (
	inputWent  = 0x01
	outputStop = 0x04
	outputGoes = 0x08
)

// terminal is what stands between the ends of a pair.
type terminal struct {
	*ldisc.Disc
	col     int    // where the next byte that goes out comes to stand
	out     []byte // what goes out
	packets bool
	flags   byte // those that wait; none without packets
}

// newTerminal makes a terminal of the setting t; false: t isn't right.
func newTerminal(t api.Termios) (terminal, bool) {
	d := ldisc.New(t)
	return terminal{Disc: d}, d != nil
}

// come lets the byte c come in, and what it shows go out; it answers the signal (0: none).
func (t *terminal) come(c byte) (sig int) {
	was := t.Stopped()
	shown, sig := t.Input(c)
	for _, b := range shown {
		t.put(b)
	}
	if sig != 0 && t.Setting().Local&api.Noflsh == 0 {
		t.flag(inputWent)
	}
	switch is := t.Stopped(); {
	case is && !was:
		t.flag(outputStop)
	case was && !is:
		t.flag(outputGoes)
	}
	return sig
}

// put lets all go out that c becomes; false: there is no room, and nothing is changed.
func (t *terminal) put(c byte) bool {
	b, next := opost.Byte(t.Setting().Out, t.col, c)
	if len(t.out)+len(b) > outRoom {
		return false
	}
	t.out, t.col = append(t.out, b...), next
	return true
}

// flag lets a flag wait, if there are packets.
func (t *terminal) flag(f byte) {
	if t.packets {
		t.flags |= f
	}
}

// silent tells whether there is nothing for the master.
func (t *terminal) silent() bool { return len(t.out) == 0 && t.flags == 0 }

// tell takes the first n bytes that go out; with packets a byte that tells what they are comes ahead, and has its place among the n.
func (t *terminal) tell(n int) []byte {
	switch {
	case !t.packets:
		return t.take(nil, n)
	case t.flags != 0:
		f := t.flags
		t.flags = 0
		return []byte{f}
	}
	return t.take([]byte{0}, max(n-1, 1))
}

// take puts the first n bytes that go out behind b; fewer, if there are no more.
func (t *terminal) take(b []byte, n int) []byte {
	n = min(n, len(t.out))
	b = append(b, t.out[:n]...)
	t.out = t.out[n:]
	return b
}

package kern_test

import (
	"cmp"
	"slices"

	"betony/api"
	"betony/draw"
	"betony/pen"
)

// held is a capability by the chapters' words.
type held struct {
	name                   int
	env, kind, obj, rights int
	of                     *held
}

// due is whose a timer is, and which one.
type due struct{ env, id int }

// line is a serial line by the words.
type line struct {
	in   []api.Item
	lost bool
	out  []byte
}

// words is a kernel by the words.
type words struct {
	w, h    int
	cells   []api.Cell
	notes   []api.Write
	windows []api.Window // the topmost one first
	alive   []bool
	events  [][]api.Event
	keys    []int // scancodes; that in the kept place is below 0
	mods    int
	lines   []line
	slots   [256]*held
	went    [256]int
	rings   map[int][]api.Message
	made    int
	timers  map[due]int
	now     int
	focus   int
	trusted bool
}

// wordsNew is a new kernel by the words.
func wordsNew(w, h, envs, lines int) *words {
	m := &words{w: w, h: h, cells: make([]api.Cell, w*h), alive: make([]bool, envs), events: make([][]api.Event, envs), lines: make([]line, lines), rings: map[int][]api.Message{}, timers: map[due]int{}, trusted: true}
	for i := range m.alive {
		m.alive[i] = true
	}
	m.windows = []api.Window{{Id: 1, R: api.Rect{W: w, H: h}}}
	m.put(&held{kind: api.OfWindow, obj: 1, rights: api.MayUse})
	for i := range lines {
		m.put(&held{kind: api.OfSerial, obj: i, rights: 7})
	}
	return m
}

// put brings a capability into the first free slot; false: none is.
func (m *words) put(h *held) bool {
	for i := range m.slots {
		if m.slots[i] == nil {
			h.name = (m.went[i]+1)*65536 + i
			m.slots[i] = h
			return true
		}
	}
	return false
}

// all is the capabilities of env.
func (m *words) all(env int) []*held {
	var l []*held
	for _, h := range m.slots {
		if h != nil && h.env == env {
			l = append(l, h)
		}
	}
	return l
}

// used is how many slots are.
func (m *words) used() int {
	n := 0
	for env := range m.alive {
		n += len(m.all(env))
	}
	return n
}

// find is what a name names; nil: it is stale.
func (m *words) find(name int) *held {
	for _, h := range m.slots {
		if h != nil && h.name == name {
			return h
		}
	}
	return nil
}

// uses is Uses by the words.
func (m *words) uses(env, window int) bool {
	for _, h := range m.all(env) {
		if h.kind == api.OfWindow && h.obj == window && h.rights&api.MayUse != 0 {
			return true
		}
	}
	return false
}

// below is who stands below h.
func (m *words) below(h *held) []*held {
	var l []*held
	for _, o := range m.slots {
		if o != nil && o.of == h {
			l = append(append(l, o), m.below(o)...)
		}
	}
	return l
}

// end lets capabilities go, and windows and rings of which nobody has one any more; how many capabilities.
func (m *words) end(l []*held) int {
	n := 0
	for i, h := range m.slots {
		if h != nil && slices.Contains(l, h) {
			m.slots[i] = nil
			m.went[i]++
			n++
		}
	}
	nobody := func(kind, obj int) bool {
		return !slices.ContainsFunc(m.slots[:], func(h *held) bool { return h != nil && h.kind == kind && h.obj == obj })
	}
	m.windows = slices.DeleteFunc(m.windows, func(w api.Window) bool { return w.Id != 1 && nobody(api.OfWindow, w.Id) })
	for id := range m.rings {
		if nobody(api.OfRing, id) {
			delete(m.rings, id)
		}
	}
	return n
}

// window is where the window stands among all.
func (m *words) window(id int) int {
	return slices.IndexFunc(m.windows, func(w api.Window) bool { return w.Id == id })
}

// top makes the window the topmost one.
func (m *words) top(id int) {
	i := m.window(id)
	w := m.windows[i]
	m.windows = slices.Insert(slices.Delete(m.windows, i, i+1), 0, w)
}

// settle is what the trusted path asks of window 1.
func (m *words) settle() {
	w := &m.windows[m.window(1)]
	w.Hidden = !m.trusted
	if m.trusted {
		w.R = api.Rect{W: m.w, H: m.h}
		m.top(1)
	}
}

// fits tells whether a window may have r.
func (m *words) fits(r api.Rect) bool {
	return r.X >= 0 && r.Y >= 0 && r.W >= 1 && r.H >= 1 && r.X < m.w && r.Y < m.h && r.W <= m.w-r.X && r.H <= m.h-r.Y
}

// owner is the window that owns a cell, and whose it is.
func (m *words) owner(x, y int) (window, env int) {
	for _, w := range m.windows {
		if !w.Hidden && x >= w.R.X && x < w.R.X+w.R.W && y >= w.R.Y && y < w.R.Y+w.R.H {
			return w.Id, w.Env
		}
	}
	return 0, 0
}

// near tells whether all numbers are from -Far to Far.
func near(l ...int) bool {
	for _, n := range l {
		if n < -api.Far || n > api.Far {
			return false
		}
	}
	return true
}

// right tells whether r is a right rectangle.
func right(r api.Rect) bool { return near(r.X, r.Y, r.W, r.H) && r.W >= 0 && r.H >= 0 }

// inside goes through the cells that the window owns, by their places in it, row by row.
func (m *words) inside(id int, visit func(x, y int)) {
	w := m.windows[m.window(id)]
	for y := range w.R.H {
		for x := range w.R.W {
			if o, _ := m.owner(w.R.X+x, w.R.Y+y); o == id {
				visit(x, y)
			}
		}
	}
}

// write writes cells by their places in the window, and tells how many.
func (m *words) write(id int, l []api.Write) int {
	w := m.windows[m.window(id)]
	for _, c := range l {
		c.X += w.R.X
		c.Y += w.R.Y
		m.cells[c.Y*m.w+c.X] = c.C
		m.notes = append(m.notes, c)
	}
	return len(l)
}

// fill is layer 13's Fill by the words.
func (m *words) fill(id int, r api.Rect, c api.Cell) int {
	var l []api.Write
	m.inside(id, func(x, y int) {
		if right(r) && x >= r.X && x < r.X+r.W && y >= r.Y && y < r.Y+r.H {
			l = append(l, api.Write{X: x, Y: y, C: c})
		}
	})
	return m.write(id, l)
}

// text is layer 13's Cells by the words.
func (m *words) text(id, x, y int, cells []api.Cell) int {
	var l []api.Write
	m.inside(id, func(cx, cy int) {
		if near(x, y) && cy == y && cx >= x && cx-x < len(cells) {
			l = append(l, api.Write{X: cx, Y: cy, C: cells[cx-x]})
		}
	})
	return m.write(id, l)
}

// copy is layer 13's Copy by the words.
func (m *words) copy(id int, r api.Rect, u, v int) int {
	w := m.windows[m.window(id)]
	owned := map[[2]int]bool{}
	m.inside(id, func(x, y int) { owned[[2]int{x, y}] = true })
	var l []api.Write
	m.inside(id, func(x, y int) {
		if right(r) && near(u, v) && x >= r.X && x < r.X+r.W && y >= r.Y && y < r.Y+r.H && owned[[2]int{x - r.X + u, y - r.Y + v}] {
			l = append(l, api.Write{X: x - r.X + u, Y: y - r.Y + v, C: m.cells[(w.R.Y+y)*m.w+w.R.X+x]})
		}
	})
	return m.write(id, l)
}

// tell brings an event behind those that wait.
func (m *words) tell(env int, e api.Event) {
	if m.alive[env] && len(m.events[env]) < 256 {
		m.events[env] = append(m.events[env], e)
	}
}

// give lets the focus go to env.
func (m *words) give(env int) {
	if env != m.focus {
		m.tell(m.focus, api.Event{Kind: api.EvFocus})
		m.tell(env, api.Event{Kind: api.EvFocus, A: 1})
	}
	m.focus = env
}

// living tells whether there is a living environment of that number.
func (m *words) living(env int) bool { return env >= 0 && env < len(m.alive) && m.alive[env] }

// behind is how many words stand behind each operation, from OpWin on.
var behind = []int{4, 1, 5, 1, 2, 9, 6, 7, 3, 1, 1, 1, 0, 1, 1, 2, 1, 1, 1, 1}

// about is of what the operations are that check a name.
var about = map[int]int{api.OpMove: api.OfWindow, api.OpTop: api.OfWindow, api.OpHide: api.OfWindow, api.OpFill: api.OfWindow, api.OpText: api.OfWindow, api.OpCopy: api.OfWindow, api.OpRead: api.OfSerial, api.OpSend: api.OfSerial, api.OpPut: api.OfRing, api.OpTake: api.OfRing}

// call is Call by the words.
func (m *words) call(env int, w []int, b []byte) (int, []byte, api.Errno) {
	switch {
	case !m.living(env):
		return 0, nil, api.ErrNone
	case len(w) == 0:
		return 0, nil, api.ErrArg
	case w[0] < 1 || w[0] > 20:
		return 0, nil, api.ErrKind
	case len(w)-1 != behind[w[0]-1]:
		return 0, nil, api.ErrArg
	}
	op, w := w[0], w[1:]
	n, out, e := 0, []byte(nil), api.OK
	if kind := about[op]; kind != 0 {
		n, out, e = m.named(env, op, kind, w, b)
	} else if op == api.OpShare || op == api.OpDrop || op == api.OpRevoke {
		n, e = m.caps(env, op, w)
	} else {
		n, e = m.other(env, op, w)
	}
	if e != api.OK {
		return 0, nil, e
	}
	m.settle()
	return n, out, e
}

// named is the operations that check a name.
func (m *words) named(env, op, kind int, w []int, b []byte) (int, []byte, api.Errno) {
	h := m.find(w[0])
	switch {
	case h == nil:
		return 0, nil, api.ErrStale
	case h.env != env:
		return 0, nil, api.ErrPerm
	case h.kind != kind:
		return 0, nil, api.ErrKind
	case h.rights&api.MayUse == 0:
		return 0, nil, api.ErrPerm
	case kind == api.OfWindow:
		n, e := m.drawn(op, h.obj, w[1:], b)
		return n, nil, e
	case kind == api.OfSerial:
		n, e := m.serial(op, &m.lines[h.obj], b)
		return n, nil, e
	}
	return m.message(env, op, h.obj, b)
}

// drawn is the operations on windows.
func (m *words) drawn(op, id int, w []int, b []byte) (int, api.Errno) {
	at := m.window(id)
	switch op {
	case api.OpMove:
		r := api.Rect{X: w[0], Y: w[1], W: w[2], H: w[3]}
		if !m.fits(r) {
			return 0, api.ErrRange
		}
		m.windows[at].R = r
	case api.OpTop:
		m.top(id)
	case api.OpHide:
		m.windows[at].Hidden = w[0] != 0
	case api.OpFill:
		p := api.Pen{Fg: w[5], Bg: w[6], Flags: w[7]}
		if !pen.Right(p) || w[4] < -1 || w[4] > 0x10ffff {
			return 0, api.ErrRange
		}
		return m.fill(id, api.Rect{X: w[0], Y: w[1], W: w[2], H: w[3]}, api.Cell{R: rune(w[4]), P: p}), api.OK
	case api.OpText:
		p := api.Pen{Fg: w[2], Bg: w[3], Flags: w[4]}
		if !pen.Right(p) {
			return 0, api.ErrRange
		}
		return m.text(id, w[0], w[1], draw.Text(string(b), p)), api.OK
	case api.OpCopy:
		return m.copy(id, api.Rect{X: w[0], Y: w[1], W: w[2], H: w[3]}, w[4], w[5]), api.OK
	}
	return 0, api.OK
}

// serial is the operations on lines.
func (m *words) serial(op int, l *line, b []byte) (int, api.Errno) {
	if op == api.OpSend {
		n := min(len(b), 256-len(l.out))
		l.out = append(l.out, b[:n]...)
		return n, api.OK
	}
	if len(l.in) == 0 {
		return 0, api.ErrEmpty
	}
	i := l.in[0]
	l.in = l.in[1:]
	return int(i.B) + 256*i.Flags, api.OK
}

// message is the operations on rings.
func (m *words) message(env, op, id int, b []byte) (int, []byte, api.Errno) {
	l := m.rings[id]
	switch {
	case op == api.OpPut && len(b) > 4096:
		return 0, nil, api.ErrLimit
	case op == api.OpPut && len(l) >= 64:
		return 0, nil, api.ErrFull
	case op == api.OpPut:
		m.rings[id] = append(l, api.Message{From: env, B: slices.Clone(b)})
		return 0, nil, api.OK
	case len(l) == 0:
		return 0, nil, api.ErrEmpty
	}
	m.rings[id] = l[1:]
	return l[0].From, l[0].B, api.OK
}

// caps is the operations that have layer 11's errors alone.
func (m *words) caps(env, op int, w []int) (int, api.Errno) {
	h := m.find(w[0])
	switch {
	case op == api.OpShare && !m.living(w[1]):
		return 0, api.ErrNone
	case h == nil:
		return 0, api.ErrStale
	case h.env != env:
		return 0, api.ErrPerm
	case op == api.OpRevoke:
		return m.end(m.below(h)), api.OK
	case op == api.OpDrop && h.rights&api.MayDrop == 0:
		return 0, api.ErrPerm
	case op == api.OpDrop:
		return m.end(append(m.below(h), h)), api.OK
	case h.rights&api.MayShare == 0:
		return 0, api.ErrPerm
	case w[2] < 1 || w[2] > 7:
		return 0, api.ErrArg
	case w[2]&h.rights != w[2]:
		return 0, api.ErrPerm
	case len(m.all(w[1])) >= 64:
		return 0, api.ErrLimit
	}
	o := &held{env: w[1], kind: h.kind, obj: h.obj, rights: w[2], of: h}
	if !m.put(o) {
		return 0, api.ErrFull
	}
	return o.name, api.OK
}

// newOne makes a window or a ring, if there is a capability for it.
func (m *words) newOne(env, kind int) (*held, api.Errno) {
	switch {
	case m.used() >= 256:
		return nil, api.ErrFull
	case len(m.all(env)) >= 64:
		return nil, api.ErrLimit
	}
	m.made++
	h := &held{env: env, kind: kind, obj: m.made, rights: 7}
	m.put(h)
	return h, api.OK
}

// other is the operations without a name.
func (m *words) other(env, op int, w []int) (int, api.Errno) {
	switch op {
	case api.OpWin:
		r := api.Rect{X: w[0], Y: w[1], W: w[2], H: w[3]}
		if !m.fits(r) {
			return 0, api.ErrRange
		}
		h, e := m.newOne(env, api.OfWindow)
		if e != api.OK {
			return 0, e
		}
		// Its number is learnt behind the call: which one it gets is free.
		h.obj = -1
		m.windows = slices.Insert(m.windows, 0, api.Window{Id: -1, Env: env, R: r})
		return h.name, api.OK
	case api.OpRing:
		h, e := m.newOne(env, api.OfRing)
		if e != api.OK {
			return 0, e
		}
		m.rings[h.obj] = nil
		return h.name, api.OK
	case api.OpTimer:
		return 0, m.timer(due{env, w[0]}, w[1])
	case api.OpCancel:
		_, there := m.timers[due{env, w[0]}]
		delete(m.timers, due{env, w[0]})
		if there {
			return 1, api.OK
		}
		return 0, api.OK
	}
	return 0, m.power(env, op, w[0])
}

// timer is layer 15's Set by the words.
func (m *words) timer(d due, ticks int) api.Errno {
	_, there := m.timers[d]
	switch {
	case d.id < 0:
		return api.ErrArg
	case ticks < 1 || ticks > 1<<30:
		return api.ErrRange
	case !there && len(m.timers) >= 1024:
		return api.ErrFull
	}
	m.timers[d] = m.now + ticks
	return api.OK
}

// power is the operations on the focus and on environments.
func (m *words) power(env, op, to int) api.Errno {
	switch {
	case op == api.OpFocus && env != m.focus || op != api.OpFocus && env != 0:
		return api.ErrPerm
	case op == api.OpFocus && m.trusted:
		return api.ErrFocus
	case op == api.OpRelease && !m.trusted:
		return api.ErrState
	case !m.living(to) || op == api.OpKill && to == 0:
		return api.ErrNone
	case op == api.OpKill:
		m.kill(to)
		return api.OK
	case op == api.OpRelease:
		m.trusted = false
	}
	m.give(to)
	return api.OK
}

// kill kills env.
func (m *words) kill(env int) {
	gone := m.all(env)
	for _, h := range m.all(env) {
		gone = append(gone, m.below(h)...)
	}
	m.end(gone)
	for d := range m.timers {
		if d.env == env {
			delete(m.timers, d)
		}
	}
	m.alive[env], m.events[env] = false, nil
	if m.focus == env {
		m.trusted = true
		m.give(0)
	}
}

// learn tells the number of the window that was made.
func (m *words) learn(id int) {
	m.windows[m.window(-1)].Id = id
	for _, h := range m.slots {
		if h != nil && h.kind == api.OfWindow && h.obj == -1 {
			h.obj = id
		}
	}
}

// scan is Scan by the words.
func (m *words) scan(c byte) bool {
	kept := slices.ContainsFunc(m.keys, func(k int) bool { return k < 0 })
	n := len(m.keys)
	if kept {
		n--
	}
	switch {
	case n < 64:
		m.keys = append(m.keys, int(c))
	case c == 0x76 && !kept:
		m.keys = append(m.keys, -0x76)
	default:
		return false
	}
	return true
}

// tells tells whether a scancode's key going down is told.
func tells(c int) bool {
	return c >= 1 && c <= 0x34 || c >= 0x40 && c <= 0x49 || c >= 0x50 && c <= 0x53 || c == 0x76
}

// pump is Pump by the words.
func (m *words) pump() bool {
	if len(m.keys) == 0 {
		return false
	}
	c := max(m.keys[0], -m.keys[0])
	m.keys = m.keys[1:]
	switch key := c & 0x7f; {
	case key >= 0x60 && key <= 0x62 && c < 0x80:
		m.mods |= 1 << (key - 0x60)
	case key >= 0x60 && key <= 0x62:
		m.mods &^= 1 << (key - 0x60)
	case c == 0x76:
		m.trusted = true
		m.give(0)
		m.settle()
	case c < 0x80 && tells(c):
		m.tell(m.focus, api.Event{Kind: api.EvKey, A: c, B: m.mods})
	}
	return true
}

// receive is Serial by the words.
func (m *words) receive(n int, b byte, flags int) bool {
	if n < 0 || n >= len(m.lines) {
		return false
	}
	l := &m.lines[n]
	if len(l.in) >= 256 {
		l.lost = true
		return false
	}
	flags &= 6
	if l.lost {
		flags |= 1
	}
	l.lost = false
	l.in = append(l.in, api.Item{B: b, Flags: flags})
	return true
}

// sent is Sent by the words.
func (m *words) sent(n, most int) []byte {
	if n < 0 || n >= len(m.lines) {
		return nil
	}
	l := &m.lines[n]
	most = max(0, min(most, len(l.out)))
	out := l.out[:most]
	l.out = l.out[most:]
	return out
}

// tick is Tick by the words.
func (m *words) tick() {
	m.now++
	var l []due
	for d, at := range m.timers {
		if at == m.now {
			l = append(l, d)
		}
	}
	slices.SortFunc(l, func(a, b due) int {
		return cmp.Or(cmp.Compare(a.env, b.env), cmp.Compare(a.id, b.id))
	})
	for _, d := range l {
		delete(m.timers, d)
		m.tell(d.env, api.Event{Kind: api.EvTimer, A: d.id})
	}
}

// next is Next by the words.
func (m *words) next(env int) (api.Event, bool) {
	if env < 0 || env >= len(m.events) || len(m.events[env]) == 0 {
		return api.Event{}, false
	}
	e := m.events[env][0]
	m.events[env] = m.events[env][1:]
	return e, true
}

package kern

import (
	"slices"
	"unicode"

	"betony/api"
	"betony/draw"
	"betony/ipc"
	"betony/pen"
	"betony/uart"
)

// slotBits is how many bits of a name are the slot; the generation stands above them.
const slotBits = 16

// number is the name of a capability.
func number(c api.Cap) int { return c.Gen<<slotBits + c.Slot }

// call is a call that is being done: who makes it, its words that weren't taken yet, its bytes, and the bytes that it answers. What is wrong with it is a panic with the error.
type call struct {
	k     *Kernel
	env   int
	words []int
	b     []byte
	out   []byte
}

// Call does what the words say, for env, with the bytes b.
func (k *Kernel) Call(env int, words []int, b []byte) (ret int, out []byte, e api.Errno) {
	defer func() {
		if p := recover(); p != nil {
			ret, out, e = 0, nil, wrong(p)
		}
	}()
	c := &call{k: k, env: env, words: words, b: b}
	ret = c.do()
	k.settle()
	return ret, c.out, api.OK
}

// wrong is the error that a call's panic was with.
func wrong(p any) api.Errno {
	e, ok := p.(api.Errno)
	if !ok {
		// No call's words are at fault, but the kernel: that is to be seen.
		panic(p)
	}
	return e
}

// ask panics with e, unless ok.
func ask(ok bool, e api.Errno) {
	if !ok {
		panic(e)
	}
}

// must panics with e, if it is an error.
func must(e api.Errno) { ask(e == api.OK, e) }

// do does the call, and tells what it answers beside its bytes.
func (c *call) do() int {
	ask(c.k.Alive(c.env), api.ErrNone)
	ask(len(c.words) > 0, api.ErrArg)
	words, does := operation(c.word())
	ask(does != nil, api.ErrKind)
	ask(len(c.words) == words, api.ErrArg)
	return does(c)
}

// operation is how many words stand behind op, and what does it; nil: there is no such operation.
func operation(op int) (words int, does func(*call) int) {
	switch op {
	case api.OpWin:
		return 4, (*call).win
	case api.OpDrop:
		return 1, (*call).drop
	case api.OpMove:
		return 5, (*call).move
	case api.OpTop:
		return 1, (*call).top
	case api.OpHide:
		return 2, (*call).hide
	case api.OpFill:
		return 9, (*call).fill
	case api.OpText:
		return 6, (*call).text
	case api.OpCopy:
		return 7, (*call).copy
	case api.OpShare:
		return 3, (*call).share
	case api.OpRevoke:
		return 1, (*call).revoke
	case api.OpRead:
		return 1, (*call).read
	case api.OpSend:
		return 1, (*call).send
	case api.OpRing:
		return 0, (*call).makeRing
	case api.OpPut:
		return 1, (*call).put
	case api.OpTake:
		return 1, (*call).take
	case api.OpTimer:
		return 2, (*call).timer
	case api.OpCancel:
		return 1, (*call).cancel
	case api.OpFocus:
		return 1, (*call).giveFocus
	case api.OpRelease:
		return 1, (*call).release
	case api.OpKill:
		return 1, (*call).kill
	}
	return 0, nil
}

// word takes the next word, of which do has seen that it is there.
func (c *call) word() int {
	w := c.words[0]
	c.words = c.words[1:]
	return w
}

// name takes a capability's name.
func (c *call) name() api.Cap {
	n := c.word()
	return api.Cap{Slot: n & (1<<slotBits - 1), Gen: n >> slotBits}
}

// object takes the name of a capability of that kind with MayUse, and tells of which number it is.
func (c *call) object(kind int) int {
	obj, e := c.k.table.Check(c.env, c.name(), kind, api.MayUse)
	must(e)
	return obj
}

// window takes the name of a window.
func (c *call) window() int { return c.object(api.OfWindow) }

// line takes the name of a serial line.
func (c *call) line() *uart.Line { return c.k.lines[c.object(api.OfSerial)] }

// ring takes the name of a ring.
func (c *call) ring() *ipc.Ring {
	id := c.object(api.OfRing)
	i := slices.IndexFunc(c.k.rings, func(r ring) bool { return r.id == id })
	return c.k.rings[i].Ring
}

// living takes a living environment.
func (c *call) living() int {
	env := c.word()
	ask(c.k.Alive(env), api.ErrNone)
	return env
}

// rect takes a rectangle, right or not.
func (c *call) rect() api.Rect {
	return api.Rect{X: c.word(), Y: c.word(), W: c.word(), H: c.word()}
}

// char takes what may be a cell's rune.
func (c *call) char() rune {
	r := c.word()
	ask(r >= -1 && r <= unicode.MaxRune, api.ErrRange)
	return rune(r)
}

// pen takes a right pen.
func (c *call) pen() api.Pen {
	p := api.Pen{Fg: c.word(), Bg: c.word(), Flags: c.word()}
	ask(pen.Right(p), api.ErrRange)
	return p
}

// mint makes a capability of the caller with all rights, and answers its name.
func (c *call) mint(kind, obj int) (int, api.Errno) {
	used := 0
	for env := range c.k.envs {
		used += c.k.table.Count(env)
	}
	// The table itself would look for the quota first.
	if used >= mostCaps {
		return 0, api.ErrFull
	}
	name, e := c.k.table.Mint(c.env, kind, obj, allRights)
	return number(name), e
}

func (c *call) win() int {
	id, e := c.k.windows.Add(c.env, c.rect())
	must(e)
	name, e := c.mint(api.OfWindow, id)
	if e != api.OK {
		c.k.windows.Drop(id)
		panic(e)
	}
	return name
}

func (c *call) drop() int {
	n, e := c.k.table.Drop(c.env, c.name())
	must(e)
	c.k.sweep()
	return n
}

func (c *call) move() int {
	must(c.k.windows.Move(c.window(), c.rect()))
	return 0
}

func (c *call) top() int {
	must(c.k.windows.Top(c.window()))
	return 0
}

func (c *call) hide() int {
	must(c.k.windows.Hide(c.window(), c.word() != 0))
	return 0
}

func (c *call) fill() int {
	id, r := c.window(), c.rect()
	n, e := draw.Fill(c.k.frame, c.k.windows, id, r, api.Cell{R: c.char(), P: c.pen()})
	must(e)
	return n
}

func (c *call) text() int {
	id, x, y := c.window(), c.word(), c.word()
	n, e := draw.Cells(c.k.frame, c.k.windows, id, x, y, draw.Text(string(c.b), c.pen()))
	must(e)
	return n
}

func (c *call) copy() int {
	n, e := draw.Copy(c.k.frame, c.k.windows, c.window(), c.rect(), c.word(), c.word())
	must(e)
	return n
}

func (c *call) share() int {
	name, to := c.name(), c.living()
	made, e := c.k.table.Share(c.env, name, to, c.word())
	must(e)
	return number(made)
}

// revoke takes no window or ring away: the one by which they are named here stays.
func (c *call) revoke() int {
	n, e := c.k.table.Revoke(c.env, c.name())
	must(e)
	return n
}

func (c *call) read() int {
	item, ok := c.line().Read()
	ask(ok, api.ErrEmpty)
	return int(item.B) + 256*item.Flags
}

func (c *call) send() int { return c.line().Send(c.b) }

func (c *call) makeRing() int {
	id := c.k.made + 1
	name, e := c.mint(api.OfRing, id)
	must(e)
	c.k.made = id
	c.k.rings = append(c.k.rings, ring{ipc.New(ringRoom), id, c.env})
	return name
}

func (c *call) put() int {
	must(c.ring().Send(c.env, c.b))
	return 0
}

func (c *call) take() int {
	m, ok := c.ring().Take()
	ask(ok, api.ErrEmpty)
	c.out = m.B
	return m.From
}

func (c *call) timer() int {
	must(c.k.clock.Set(c.env, c.word(), c.word()))
	return 0
}

func (c *call) cancel() int {
	if c.k.clock.Cancel(c.env, c.word()) {
		return 1
	}
	return 0
}

func (c *call) giveFocus() int {
	ask(c.env == c.k.focus, api.ErrPerm)
	ask(!c.k.trusted, api.ErrFocus)
	c.k.give(c.living())
	return 0
}

func (c *call) release() int {
	ask(c.env == login, api.ErrPerm)
	ask(c.k.trusted, api.ErrState)
	to := c.living()
	c.k.trusted = false
	c.k.give(to)
	return 0
}

func (c *call) kill() int {
	ask(c.env == login, api.ErrPerm)
	env := c.living()
	ask(env != login, api.ErrNone)
	c.k.kill(env)
	return 0
}

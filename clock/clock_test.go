package clock_test

import (
	"math"
	"math/rand/v2"
	"slices"
	"testing"

	"betony/api"
	"betony/clock"
)

const (
	most    = 1024    // timers
	longest = 1 << 30 // ticks from now on
)

// bounds are numbers at all bounds, on either side.
func bounds() []int {
	return []int{math.MinInt, math.MinInt + 1, -1 << 32, -longest, -most, -2, -1, 0, 1, 2, 3, 255, 256, most - 1, most, most + 1, longest - 1, longest, longest + 1, 1<<32 - 1, 1 << 32, 1<<32 + 1, longest + 1<<32, math.MaxInt - 1, math.MaxInt}
}

// name is whose a timer is, and which one.
type name struct{ env, id int }

// words is a clock by the chapter's words.
type words struct {
	now int
	due map[name]int
}

// set is Set by the words.
func (m *words) set(env, id, ticks int) api.Errno {
	if env < 0 || id < 0 {
		return api.ErrArg
	}
	if ticks < 1 || ticks > longest {
		return api.ErrRange
	}
	if _, there := m.due[name{env, id}]; !there && len(m.due) == most {
		return api.ErrFull
	}
	m.due[name{env, id}] = m.now + ticks
	return api.OK
}

// ahead tells whether a stands ahead of b in All.
func ahead(a, b api.Timer) bool {
	if a.At != b.At {
		return a.At < b.At
	}
	if a.Env != b.Env {
		return a.Env < b.Env
	}
	return a.Id < b.Id
}

// all is All by the words.
func (m *words) all() []api.Timer {
	var l []api.Timer
	for n, at := range m.due {
		l = append(l, api.Timer{Env: n.env, Id: n.id, At: at})
	}
	slices.SortFunc(l, func(a, b api.Timer) int {
		if ahead(a, b) {
			return -1
		}
		return 1
	})
	return l
}

// take takes those that gone tells, in All's order.
func (m *words) take(gone func(t api.Timer) bool) []api.Timer {
	var l []api.Timer
	for _, t := range m.all() {
		if gone(t) {
			l = append(l, t)
			delete(m.due, name{t.Env, t.Id})
		}
	}
	return l
}

// tick is Tick by the words.
func (m *words) tick() []api.Timer {
	m.now++
	return m.take(func(t api.Timer) bool { return t.At == m.now })
}

// pair is a clock, and the words that it is held against.
type pair struct {
	*testing.T
	c *clock.Clock
	m words
}

// pairNew is a clock without timers, and its words.
func pairNew(t *testing.T) *pair {
	return &pair{t, clock.New(), words{due: map[name]int{}}}
}

// whole holds all that can be asked against the words.
func (p *pair) whole() {
	p.Helper()
	if p.c.Now() != p.m.now {
		p.Fatalf("Now = %d, want %d", p.c.Now(), p.m.now)
	}
	if l, want := p.c.All(), p.m.all(); !slices.Equal(l, want) {
		p.Fatalf("All = %v, want %v (tick %d)", l, want, p.m.now)
	}
}

// set sets on both.
func (p *pair) set(env, id, ticks int) api.Errno {
	p.Helper()
	there := len(p.m.due)
	e, want := p.c.Set(env, id, ticks), p.m.set(env, id, ticks)
	if e != want {
		p.Fatalf("Set(%d, %d, %d) = %v, want %v (%d there)", env, id, ticks, e, want, there)
	}
	p.whole()
	return e
}

// cancel cancels on both.
func (p *pair) cancel(env, id int) {
	p.Helper()
	want := len(p.m.take(func(t api.Timer) bool { return t.Env == env && t.Id == id })) == 1
	if ok := p.c.Cancel(env, id); ok != want {
		p.Fatalf("Cancel(%d, %d) = %v, want %v", env, id, ok, want)
	}
	p.whole()
}

// tick goes on on both.
func (p *pair) tick() []api.Timer {
	p.Helper()
	l, want := p.c.Tick(), p.m.tick()
	if !slices.Equal(l, want) {
		p.Fatalf("Tick = %v, want %v (now %d)", l, want, p.m.now)
	}
	p.whole()
	return l
}

// kill kills on both.
func (p *pair) kill(env int) {
	p.Helper()
	want := len(p.m.take(func(t api.Timer) bool { return t.Env == env }))
	if n := p.c.Kill(env); n != want {
		p.Fatalf("Kill(%d) = %d, want %d", env, n, want)
	}
	p.whole()
}

// fill lets the clock have n timers: of 16 environments, due at any of 40 ticks.
func (p *pair) fill(n int) {
	p.Helper()
	for k := range n {
		if e := p.c.Set(k%16, k/16, 1+k*7%40); e != api.OK {
			p.Fatalf("Set of the timer %d = %v", k, e)
		}
		p.m.set(k%16, k/16, 1+k*7%40)
	}
	p.whole()
}

// drain goes on till there is no timer any more.
func (p *pair) drain() {
	p.Helper()
	for len(p.m.due) > 0 {
		p.tick()
	}
	p.tick()
}

// P15.1: New: the tick 0, without timers; each clock is by itself.
func TestNew(t *testing.T) {
	a, b := clock.New(), clock.New()
	a.Set(1, 2, 3)
	a.Tick()
	if a.Now() != 1 || len(a.All()) != 1 {
		t.Fatalf("tick %d, timers %v", a.Now(), a.All())
	}
	for _, c := range []*clock.Clock{b, clock.New()} {
		if c.Now() != 0 || len(c.All()) != 0 || c.Cancel(1, 2) || c.Kill(1) != 0 || len(c.Tick()) != 0 || c.Now() != 1 {
			t.Fatal("a new clock isn't a new one")
		}
	}
}

// The chapter's example: 2 ticks: the second Tick tells it.
func TestExample(t *testing.T) {
	c := clock.New()
	if e := c.Set(3, 4, 2); e != api.OK {
		t.Fatalf("Set = %v", e)
	}
	if l := c.Tick(); len(l) != 0 {
		t.Fatalf("the first Tick = %v", l)
	}
	if l := c.Tick(); !slices.Equal(l, []api.Timer{{Env: 3, Id: 4, At: 2}}) {
		t.Fatalf("the second Tick = %v", l)
	}
	if l := c.Tick(); len(l) != 0 || len(c.All()) != 0 {
		t.Fatalf("the third Tick = %v, All = %v", l, c.All())
	}
}

// P15.1, R1, R2, R5: Set, its numbers at all bounds, on a clock without timers, and behind some ticks.
func TestSet(t *testing.T) {
	for _, env := range bounds() {
		for _, id := range bounds() {
			for _, ticks := range bounds() {
				c := clock.New()
				c.Tick()
				e := c.Set(env, id, ticks)
				want := []api.Timer{{Env: env, Id: id, At: 1 + ticks}}
				switch {
				case env < 0 || id < 0:
					if e != api.ErrArg {
						t.Fatalf("Set(%d, %d, %d) = %v", env, id, ticks, e)
					}
					want = nil
				case ticks < 1 || ticks > longest:
					if e != api.ErrRange {
						t.Fatalf("Set(%d, %d, %d) = %v", env, id, ticks, e)
					}
					want = nil
				case e != api.OK:
					t.Fatalf("Set(%d, %d, %d) = %v", env, id, ticks, e)
				}
				if l := c.All(); !slices.Equal(l, want) {
					t.Fatalf("Set(%d, %d, %d): All = %v", env, id, ticks, l)
				}
			}
		}
	}
}

// P15.1: a timer that is set once more is due from now on, and not when it was: earlier, later, and at the same tick.
func TestAgain(t *testing.T) {
	for first := 1; first <= 6; first++ {
		for between := range first {
			for second := 1; second <= 6; second++ {
				p := pairNew(t)
				p.set(1, 1, 3)
				p.set(2, 7, first)
				p.set(2, 8, 3)
				for range between {
					p.tick()
				}
				p.set(2, 7, second)
				p.set(2, 7, second)
				p.drain()
			}
		}
	}
}

// P15.1: one that isn't set rightly stays due when it was.
func TestAgainWrong(t *testing.T) {
	p := pairNew(t)
	p.set(2, 7, 3)
	for _, ticks := range []int{0, -1, longest + 1, math.MinInt, math.MaxInt} {
		p.set(2, 7, ticks)
	}
	p.tick()
	p.set(2, -7, 9)
	p.drain()
}

// P15.1: a timer is of an environment and of a number: neither alone makes two of them one.
func TestNames(t *testing.T) {
	p := pairNew(t)
	for env := range 5 {
		for id := range 5 {
			p.set(env, id, 2)
		}
	}
	if n := len(p.c.All()); n != 25 {
		t.Fatalf("%d timers", n)
	}
	p.cancel(1, 2)
	p.cancel(1, 2)
	p.cancel(2, 1)
	p.cancel(5, 0)
	p.cancel(0, 5)
	p.set(3, 4, 1)
	p.kill(4)
	p.kill(4)
	p.drain()
}

// P15.1: Tick tells in the order of environments, then of numbers, whatever the order in which they were set.
func TestTickOrder(t *testing.T) {
	c := rand.New(rand.NewPCG(15, 1))
	var want []api.Timer
	for env := range 6 {
		for id := range 6 {
			want = append(want, api.Timer{Env: env * env, Id: id * 100, At: 5})
		}
	}
	for range 100 {
		k := clock.New()
		started := 0
		for _, i := range c.Perm(len(want)) {
			if started < 4 && c.IntN(8) == 0 {
				k.Tick()
				started++
			}
			k.Set(want[i].Env, want[i].Id, 5-started)
		}
		for range 4 - started {
			if l := k.Tick(); len(l) != 0 {
				t.Fatalf("Tick = %v too early", l)
			}
		}
		if l := k.Tick(); !slices.Equal(l, want) {
			t.Fatalf("Tick = %v, want %v", l, want)
		}
	}
}

// P15.1: All tells in the order of ticks, then of environments, then of numbers.
func TestAllOrder(t *testing.T) {
	c := rand.New(rand.NewPCG(15, 2))
	var want []api.Timer
	for at := 1; at <= 4; at++ {
		for env := range 4 {
			for id := range 4 {
				if (at+env+id)%4 == 0 { // of each name just one
					want = append(want, api.Timer{Env: env, Id: id, At: at})
				}
			}
		}
	}
	if !slices.IsSortedFunc(want, func(a, b api.Timer) int {
		if ahead(a, b) {
			return -1
		}
		return 1
	}) {
		t.Fatal("what is wanted isn't in the order")
	}
	for range 100 {
		k := clock.New()
		for _, i := range c.Perm(len(want)) {
			k.Set(want[i].Env, want[i].Id, want[i].At)
		}
		if l := k.All(); !slices.Equal(l, want) {
			t.Fatalf("All = %v, want %v", l, want)
		}
	}
}

// P15.1, R2: errors of Set stand in their order, on a clock with the most timers, too.
func TestErrors(t *testing.T) {
	p := pairNew(t)
	p.fill(most)
	for i, e := range []api.Errno{
		p.set(-1, 0, 0), p.set(0, -1, longest+1), p.set(-1, -1, 1),
		p.set(99, 0, 0), p.set(0, 0, 0), p.set(0, 99, longest+1),
		p.set(99, 0, 1), p.set(0, 99, longest), p.set(16, 64, 9),
	} {
		if want := []api.Errno{api.ErrArg, api.ErrRange, api.ErrFull}[i/3]; e != want {
			t.Fatalf("the call %d = %v, want %v", i, e, want)
		}
	}
}

// P15.1: there are at most 1,024, of one environment or of many; those that are there are set once more, and each that goes makes room for one.
func TestFull(t *testing.T) {
	p := pairNew(t)
	p.fill(most - 1)
	p.set(3, 500, 41)
	p.set(3, 501, 41)
	for k := range 16 {
		p.set(k, k*4, 1+k%9)
	}
	goes := []func(){
		func() { p.cancel(3, 500) },
		func() { p.kill(5) },
		func() {
			for len(p.tick()) == 0 {
			}
		},
	}
	for i, g := range goes {
		g()
		room := most - len(p.m.due)
		if room == 0 {
			t.Fatalf("none went: %d", i)
		}
		for k := range room + 2 {
			e := p.c.Set(600+i, k, 50)
			if e != p.m.set(600+i, k, 50) || (e == api.OK) != (k < room) {
				t.Fatalf("Set of %d of %d = %v", k, room, e)
			}
		}
		p.whole()
	}
	p.drain()
}

// P15.1: the most timers of one environment, and of as many environments.
func TestFullOfOne(t *testing.T) {
	for _, each := range []bool{false, true} {
		c := clock.New()
		for k := range most {
			env, id := 9, k
			if each {
				env, id = k, 9
			}
			if e := c.Set(env, id, longest-k); e != api.OK {
				t.Fatalf("Set of the timer %d = %v", k, e)
			}
		}
		if e := c.Set(10, most, 1); e != api.ErrFull {
			t.Fatalf("Set of one too many = %v", e)
		}
		want := most
		if each {
			want = 1
		}
		if n := c.Kill(9); n != want || len(c.All()) != most-want {
			t.Fatalf("Kill = %d, want %d", n, want)
		}
	}
}

// P15.1, R1: Cancel and Kill, their numbers at all bounds, of a clock without timers and of one with some.
func TestNumbers(t *testing.T) {
	for _, n := range []int{0, 40} {
		for _, env := range bounds() {
			p := pairNew(t)
			p.fill(n)
			p.set(longest, math.MaxInt, 3)
			p.set(math.MaxInt, 0, 3)
			for _, id := range bounds() {
				p.cancel(env, id)
			}
			p.kill(env)
			p.drain()
		}
	}
}

// P15.1: what is cancelled, or whose environment is killed, is told no more; it may be set anew.
func TestGone(t *testing.T) {
	p := pairNew(t)
	for env := range 3 {
		for id := range 3 {
			p.set(env, id, 1+id)
		}
	}
	p.tick()
	p.cancel(0, 0) // it was told
	p.cancel(0, 1)
	p.kill(1)
	p.kill(7)
	p.tick()
	p.set(1, 1, 1)
	p.set(0, 1, 2)
	p.drain()
}

// P15.2: each timer that is set is told once, at its tick, if it isn't set anew, cancelled or killed ahead of it.
func TestOnce(t *testing.T) {
	c := rand.New(rand.NewPCG(15, 3))
	for range 50 {
		k := clock.New()
		told, want := map[api.Timer]int{}, map[api.Timer]int{}
		for n := range 200 {
			// Numbers of their own: none is set anew.
			for i := range c.IntN(5) {
				x := api.Timer{Env: c.IntN(4), Id: n*5 + i, At: k.Now() + 1 + c.IntN(30)}
				if k.Set(x.Env, x.Id, x.At-k.Now()) == api.OK {
					want[x]++
				}
			}
			for _, x := range k.Tick() {
				if x.At != k.Now() {
					t.Fatalf("%v is told at %d", x, k.Now())
				}
				told[x]++
			}
		}
		for range 30 {
			for _, x := range k.Tick() {
				if x.At != k.Now() {
					t.Fatalf("%v is told at %d", x, k.Now())
				}
				told[x]++
			}
		}
		if len(told) != len(want) {
			t.Fatalf("%d are told, %d were set", len(told), len(want))
		}
		for x := range want {
			if told[x] != 1 {
				t.Fatalf("%v is told %d times", x, told[x])
			}
		}
	}
}

// P15.1, P15.2: a timer is told at its tick and at no other one, far ones too.
func TestFar(t *testing.T) {
	for _, ticks := range []int{1, 2, 255, 256, 257, 65535, 65536, 1 << 20} {
		c := clock.New()
		c.Set(1, 1, ticks)
		c.Set(2, 1, longest)
		for n := 1; n <= ticks+1; n++ {
			if l := c.Tick(); (len(l) == 1) != (n == ticks) || len(l) > 1 || c.Now() != n {
				t.Fatalf("%d ticks: Tick %d = %v", ticks, n, l)
			}
		}
		if l := c.All(); !slices.Equal(l, []api.Timer{{Env: 2, Id: 1, At: longest}}) {
			t.Fatalf("All = %v", l)
		}
	}
}

// P15.1, P15.2: all rows of calls of two environments with two numbers.
func TestEach(t *testing.T) {
	const calls, kinds = 5, 13
	total := 1
	for range calls {
		total *= kinds
	}
	for n := range total {
		p := pairNew(t)
		for k, rest := 0, n; k < calls; k, rest = k+1, rest/kinds {
			env, id := rest%kinds%2, rest%kinds/2%2
			switch rest % kinds / 4 {
			case 0:
				p.set(env, id, 1)
			case 1:
				p.set(env, id, 2)
			case 2:
				p.cancel(env, id)
			default:
				p.tick()
			}
		}
		p.kill(n % 2)
		p.drain()
	}
}

// call makes any call.
func (p *pair) call(c *rand.Rand, envs, ids, span int) {
	p.Helper()
	env, id := c.IntN(envs), c.IntN(ids)
	switch k := c.IntN(100); {
	case k < 50:
		p.set(env, id, 1+c.IntN(span))
	case k < 54:
		p.set(env-1, id-1, c.IntN(3)-1)
	case k < 65:
		p.cancel(env, id)
	case k < 67:
		p.kill(env)
	default:
		p.tick()
	}
}

// P15.1, P15.2: any calls, one behind the other.
func TestAny(t *testing.T) {
	c := rand.New(rand.NewPCG(15, 4))
	for range 200 {
		p := pairNew(t)
		envs, ids, span := 1+c.IntN(5), 1+c.IntN(12), 1+c.IntN(20)
		for range 300 {
			p.call(c, envs, ids, span)
		}
		p.drain()
	}
}

// P15.1: any calls on a clock that is full, or nearly so.
func TestAnyFull(t *testing.T) {
	c := rand.New(rand.NewPCG(15, 5))
	for range 10 {
		p := pairNew(t)
		p.fill(most - c.IntN(3))
		for range 100 {
			if c.IntN(3) == 0 {
				p.set(c.IntN(20), c.IntN(80), 1+c.IntN(40))
			} else {
				p.call(c, 17, 65, 40)
			}
		}
		p.drain()
	}
}

// R4: what is answered may be written over and appended to, and isn't changed by what is called later.
func TestMemory(t *testing.T) {
	spoil := func(l []api.Timer) {
		for i := range l[:cap(l)] {
			l[:cap(l)][i] = api.Timer{Env: 77, Id: 77, At: 1}
		}
		_ = append(l[:0], api.Timer{Env: 78, At: 2})
	}
	p := pairNew(t)
	p.fill(60)
	for n := range 45 {
		spoil(p.c.All())
		p.whole()
		kept, was := p.c.All(), p.m.all()
		told := p.c.Tick()
		want := p.m.tick()
		spoil(p.c.All())
		p.set(n%7, n, 1+n%11)
		p.set(3, 3, 4)
		if !slices.Equal(kept, was) || !slices.Equal(told, want) {
			t.Fatalf("what was answered is changed: %v, %v", kept, told)
		}
		spoil(kept)
		spoil(told)
		p.whole()
	}
	p.drain()
	spoil(p.c.All())
	spoil(p.c.Tick())
	p.m.tick()
	p.set(1, 1, 1)
	p.drain()
}

// R6: the same calls have the same answers, whatever was asked between, and whatever other clocks do.
func TestOneAnswer(t *testing.T) {
	c := rand.New(rand.NewPCG(15, 6))
	for range 100 {
		a, b, other := clock.New(), clock.New(), clock.New()
		for range 200 {
			env, id, ticks := c.IntN(4), c.IntN(6), c.IntN(9)
			switch c.IntN(4) {
			case 0:
				if !slices.Equal(a.Tick(), b.Tick()) {
					t.Fatal("Tick has two answers")
				}
			case 1:
				if a.Cancel(env, id) != b.Cancel(env, id) {
					t.Fatal("Cancel has two answers")
				}
			default:
				if a.Set(env, id, ticks) != b.Set(env, id, ticks) {
					t.Fatal("Set has two answers")
				}
			}
			if !slices.Equal(b.All(), b.All()) || !slices.Equal(a.All(), b.All()) || b.Now() != b.Now() || a.Now() != b.Now() {
				t.Fatal("All or Now has two answers")
			}
			other.Set(env+1, id, ticks+1)
			if c.IntN(3) == 0 {
				other.Tick()
			}
			if c.IntN(50) == 0 && a.Kill(env) != b.Kill(env) {
				t.Fatal("Kill has two answers")
			}
		}
	}
}

// P1, R1: every call ends and none panics, at any argument.
func FuzzAll(f *testing.F) {
	f.Add(0, 1, 2, []byte{1, 2, 9, 100, 200, 9, 250})
	f.Add(-1, 0, math.MinInt, []byte{0, 200, 255})
	f.Add(math.MaxInt, math.MaxInt, math.MaxInt, []byte{3, 3, 64})
	f.Add(1, 2, longest, []byte{130, 255})
	f.Fuzz(func(t *testing.T, env, id, ticks int, calls []byte) {
		p := pairNew(t)
		p.set(env, id, ticks)
		for i, b := range calls {
			switch b % 8 {
			case 0:
				p.set(env, id+i, ticks)
			case 1:
				p.cancel(env, id+i/2)
			case 2:
				p.kill(env)
			case 3:
				p.kill(int(b) / 32)
			case 4:
				p.cancel(int(b)/32%3, i%3)
			case 5, 6:
				p.set(int(b)/32%3, i%3, 1+int(b)/64)
			default:
				p.tick()
			}
		}
		for range 5 {
			p.tick()
		}
	})
}

package proc_test

import (
	"maps"
	"math"
	"math/rand/v2"
	"slices"
	"testing"

	"betony/api"
	"betony/proc"
)

const (
	most    = 256 // processes
	lastTty = 64
)

// bounds are numbers at all bounds, on either side.
func bounds() []int {
	return []int{math.MinInt, math.MinInt + 1, -1 << 32, -1<<32 + 1, -most, -lastTty, -2, -1, 0, 1, 2, 3, 4, 5, 6, 7, lastTty - 1, lastTty, lastTty + 1, most - 1, most, most + 1, 1<<31 - 1, 1 << 32, 1<<32 + 1, 1<<32 + 2, 1<<32 + 4, math.MaxInt - 1, math.MaxInt}
}

// tty is a terminal by the chapter's words: its session, and its foreground group.
type tty struct{ session, front int }

// words is a table by the chapter's words.
type words struct {
	made  int
	procs map[int]api.Proc
	ttys  [lastTty + 1]tty
}

// begin is a new table by the words.
func begin() words {
	return words{made: 1, procs: map[int]api.Proc{1: {Pid: 1, Parent: 0, Group: 1, Session: 1, Tty: 0}}}
}

// pids is the numbers of the processes, rising.
func (m *words) pids() []int { return slices.Sorted(maps.Keys(m.procs)) }

// group is the processes of a group.
func (m *words) group(g int) []api.Proc {
	var l []api.Proc
	for _, pid := range m.pids() {
		if m.procs[pid].Group == g {
			l = append(l, m.procs[pid])
		}
	}
	return l
}

// groups is the groups that there are, rising.
func (m *words) groups() []int {
	n := map[int]int{}
	for _, p := range m.procs {
		n[p.Group]++
	}
	return slices.Sorted(maps.Keys(n))
}

// inSession tells whether there is such a group in the session.
func (m *words) inSession(g, s int) bool {
	for _, p := range m.group(g) {
		if p.Session == s {
			return true
		}
	}
	return false
}

// orphan is Orphan by the words.
func (m *words) orphan(g int) bool {
	l := m.group(g)
	for _, p := range l {
		parent, there := m.procs[p.Parent]
		if there && parent.Group != g && parent.Session == p.Session {
			return false
		}
	}
	return len(l) > 0
}

// change changes a process.
func (m *words) change(pid int, how func(p *api.Proc)) {
	p := m.procs[pid]
	how(&p)
	m.procs[pid] = p
}

// fork is Fork by the words.
func (m *words) fork(pid int) (int, api.Errno) {
	p, there := m.procs[pid]
	if !there {
		return 0, api.ErrNone
	}
	if len(m.procs) == most {
		return 0, api.ErrFull
	}
	m.made++
	p.Pid, p.Parent = m.made, pid
	m.procs[p.Pid] = p
	return p.Pid, api.OK
}

// setsid is Setsid by the words.
func (m *words) setsid(pid int) api.Errno {
	if _, there := m.procs[pid]; !there {
		return api.ErrNone
	}
	if len(m.group(pid)) > 0 {
		return api.ErrPerm
	}
	m.change(pid, func(p *api.Proc) { p.Group, p.Session, p.Tty = pid, pid, 0 })
	return api.OK
}

// setpgid is Setpgid by the words.
func (m *words) setpgid(pid, who, group int) api.Errno {
	p, there := m.procs[pid]
	if !there {
		return api.ErrNone
	}
	if who == 0 {
		who = pid
	}
	w, there := m.procs[who]
	if who != pid && (!there || w.Parent != pid) {
		return api.ErrNone
	}
	if group < 0 {
		return api.ErrArg
	}
	if group == 0 {
		group = who
	}
	if w.Session == who || w.Session != p.Session {
		return api.ErrPerm
	}
	if group != who && !m.inSession(group, w.Session) {
		return api.ErrPerm
	}
	m.change(who, func(w *api.Proc) { w.Group = group })
	return api.OK
}

// attach is Attach by the words.
func (m *words) attach(pid, n int) api.Errno {
	p, there := m.procs[pid]
	if !there {
		return api.ErrNone
	}
	if n < 1 || n > lastTty {
		return api.ErrArg
	}
	if p.Session != pid || p.Tty != 0 || m.ttys[n].session != 0 {
		return api.ErrPerm
	}
	m.ttys[n] = tty{session: p.Session, front: p.Group}
	m.give(p.Session, n)
	return api.OK
}

// give lets all of the session have the terminal; 0: none.
func (m *words) give(session, n int) {
	for _, pid := range m.pids() {
		if m.procs[pid].Session == session {
			m.change(pid, func(p *api.Proc) { p.Tty = n })
		}
	}
}

// foreground is Foreground by the words.
func (m *words) foreground(pid, n, group int) api.Errno {
	p, there := m.procs[pid]
	if !there {
		return api.ErrNone
	}
	if p.Tty == 0 || p.Tty != n {
		return api.ErrNotTTY
	}
	if !m.inSession(group, p.Session) {
		return api.ErrPerm
	}
	m.ttys[n].front = group
	return api.OK
}

// deaf is Deaf by the words.
func (m *words) deaf(pid int, deaf bool) api.Errno {
	if _, there := m.procs[pid]; !there {
		return api.ErrNone
	}
	m.change(pid, func(p *api.Proc) { p.Deaf = deaf })
	return api.OK
}

// exit is Exit by the words.
func (m *words) exit(pid int) []api.Signal {
	p, there := m.procs[pid]
	if !there {
		return nil
	}
	tied := map[int]int{}
	for _, g := range m.groups() {
		if !m.orphan(g) {
			tied[g]++
		}
	}
	delete(m.procs, pid)
	for _, q := range m.pids() {
		if m.procs[q].Parent == pid {
			m.change(q, func(q *api.Proc) {
				if q.Parent = 1; pid == 1 {
					q.Parent = 0
				}
			})
		}
	}
	var sigs []api.Signal
	if p.Session == pid && p.Tty != 0 {
		if g := m.ttys[p.Tty].front; len(m.group(g)) > 0 {
			sigs = append(sigs, api.Signal{Group: g, Sig: api.SigHup})
		}
		m.ttys[p.Tty] = tty{}
		m.give(pid, 0)
	}
	for _, g := range m.groups() {
		if tied[g] == 1 && m.orphan(g) {
			sigs = append(sigs, api.Signal{Group: g, Sig: api.SigHup}, api.Signal{Group: g, Sig: api.SigCont})
		}
	}
	return sigs
}

// isTty tells whether there is such a terminal.
func isTty(n int) bool { return n >= 1 && n <= lastTty }

// hangup is Hangup by the words.
func (m *words) hangup(n int) []api.Signal {
	if !isTty(n) || m.ttys[n].session == 0 {
		return nil
	}
	was := m.ttys[n]
	m.ttys[n] = tty{}
	m.give(was.session, 0)
	if len(m.group(was.front)) == 0 {
		return nil
	}
	return []api.Signal{{Group: was.front, Sig: api.SigHup}, {Group: was.front, Sig: api.SigCont}}
}

// may is May by the words.
func (m *words) may(pid, n int, write, tostop bool) (int, []api.Signal) {
	p, there := m.procs[pid]
	if !there {
		return api.TtyFail, nil
	}
	if !isTty(n) || p.Tty != n || p.Group == m.ttys[n].front {
		return api.TtyGo, nil
	}
	if !write {
		if p.Deaf || m.orphan(p.Group) {
			return api.TtyFail, nil
		}
		return api.TtyStop, []api.Signal{{Group: p.Group, Sig: api.SigTtin}}
	}
	if !tostop || p.Deaf {
		return api.TtyGo, nil
	}
	if m.orphan(p.Group) {
		return api.TtyFail, nil
	}
	return api.TtyStop, []api.Signal{{Group: p.Group, Sig: api.SigTtou}}
}

// front is Front by the words.
func (m *words) front(n int) int {
	if !isTty(n) {
		return 0
	}
	return m.ttys[n].front
}

// all is All by the words.
func (m *words) all() []api.Proc {
	var l []api.Proc
	for _, pid := range m.pids() {
		l = append(l, m.procs[pid])
	}
	return l
}

// pair is a table, and the words that it is held against.
type pair struct {
	*testing.T
	x *proc.Table
	m words
}

// pairNew is a new table, and its words.
func pairNew(t *testing.T) *pair { return &pair{t, proc.New(), begin()} }

// whole holds the processes, groups and terminals against the words.
func (p *pair) whole() {
	p.Helper()
	if l, want := p.x.All(), p.m.all(); !slices.Equal(l, want) {
		p.Fatalf("All = %v, want %v", l, want)
	}
	for n := -1; n <= lastTty+1; n++ {
		if g, want := p.x.Front(n), p.m.front(n); g != want {
			p.Fatalf("Front(%d) = %d, want %d", n, g, want)
		}
	}
	for pid := -1; pid <= p.m.made+1; pid++ {
		want, there := p.m.procs[pid]
		if got, ok := p.x.Get(pid); got != want || ok != there {
			p.Fatalf("Get(%d) = %v, %v, want %v, %v", pid, got, ok, want, there)
		}
	}
	for _, g := range append(p.m.groups(), -1, 0, p.m.made, p.m.made+1) {
		if o, want := p.x.Orphan(g), p.m.orphan(g); o != want {
			p.Fatalf("Orphan(%d) = %v, want %v: %v", g, o, want, p.m.all())
		}
	}
	p.sessions()
}

// sessions holds P21.5 against the processes.
func (p *pair) sessions() {
	p.Helper()
	of := map[int]int{}
	for _, q := range p.x.All() {
		if s, seen := of[q.Group]; seen && s != q.Session {
			p.Fatalf("the group %d is of two sessions: %v", q.Group, p.x.All())
		}
		of[q.Group] = q.Session
		if q.Session == q.Pid && q.Group != q.Pid {
			p.Fatalf("%v leads its session, and not its group", q)
		}
	}
}

// mays holds May of a process against the words.
func (p *pair) mays(pid int, ttys ...int) {
	p.Helper()
	for _, n := range ttys {
		for k := range 4 {
			write, tostop := k&1 != 0, k&2 != 0
			got, sigs := p.x.May(pid, n, write, tostop)
			want, wants := p.m.may(pid, n, write, tostop)
			if got != want || !slices.Equal(sigs, wants) {
				p.Fatalf("May(%d, %d, %v, %v) = %d, %v, want %d, %v: %v", pid, n, write, tostop, got, sigs, want, wants, p.m.all())
			}
		}
	}
}

// allMay holds May of each process against the words: of its terminal, of those that others have, and of what is none.
func (p *pair) allMay() {
	p.Helper()
	for pid := range p.m.made + 2 {
		p.mays(pid, -1, 0, 1, 2, 3, 4, lastTty, lastTty+1)
	}
}

// is holds an error against the words', and then the whole.
func (p *pair) is(e, want api.Errno) api.Errno {
	p.Helper()
	if e != want {
		p.Fatalf("%v, want %v: %v", e, want, p.m.all())
	}
	p.whole()
	return e
}

// tells holds signals against the words', and then the whole.
func (p *pair) tells(sigs, want []api.Signal) []api.Signal {
	p.Helper()
	if !slices.Equal(sigs, want) {
		p.Fatalf("%v, want %v: %v", sigs, want, p.m.all())
	}
	p.whole()
	return sigs
}

// The calls, on both.

func (p *pair) fork(pid int) int {
	p.Helper()
	n, e := p.x.Fork(pid)
	want, wantE := p.m.fork(pid)
	if n != want {
		p.Fatalf("Fork(%d) = %d, want %d", pid, n, want)
	}
	p.is(e, wantE)
	return n
}

func (p *pair) setsid(pid int) api.Errno {
	p.Helper()
	return p.is(p.x.Setsid(pid), p.m.setsid(pid))
}

func (p *pair) setpgid(pid, who, group int) api.Errno {
	p.Helper()
	return p.is(p.x.Setpgid(pid, who, group), p.m.setpgid(pid, who, group))
}

func (p *pair) attach(pid, tty int) api.Errno {
	p.Helper()
	return p.is(p.x.Attach(pid, tty), p.m.attach(pid, tty))
}

func (p *pair) foreground(pid, tty, group int) api.Errno {
	p.Helper()
	return p.is(p.x.Foreground(pid, tty, group), p.m.foreground(pid, tty, group))
}

func (p *pair) deaf(pid int, deaf bool) api.Errno {
	p.Helper()
	return p.is(p.x.Deaf(pid, deaf), p.m.deaf(pid, deaf))
}

func (p *pair) exit(pid int) []api.Signal {
	p.Helper()
	return p.tells(p.x.Exit(pid), p.m.exit(pid))
}

func (p *pair) hangup(tty int) []api.Signal {
	p.Helper()
	return p.tells(p.x.Hangup(tty), p.m.hangup(tty))
}

// want holds what was answered against what is to be.
func want[T comparable](t *testing.T, what string, got, want T) {
	t.Helper()
	if got != want {
		t.Errorf("%s: %v, want %v", what, got, want)
	}
}

// hup is a SigHup to the group.
func hup(group int) api.Signal { return api.Signal{Group: group, Sig: api.SigHup} }

// cont is a SigCont to the group.
func cont(group int) api.Signal { return api.Signal{Group: group, Sig: api.SigCont} }

// wantSignals holds signals against those that are to be.
func wantSignals(t *testing.T, what string, got []api.Signal, want ...api.Signal) {
	t.Helper()
	if !slices.Equal(got, want) {
		t.Errorf("%s: %v, want %v", what, got, want)
	}
}

// shell is a table with a session 2 on the terminal 4: its leader, a job 3 with the processes 3 and 4, and a job 5.
func shell(t *testing.T) *pair {
	t.Helper()
	p := pairNew(t)
	s := p.fork(1)
	p.setsid(s)
	p.attach(s, 4)
	a := p.fork(s)
	p.setpgid(s, a, 0)
	b := p.fork(s)
	p.setpgid(s, b, a)
	c := p.fork(s)
	p.setpgid(s, c, 0)
	if s != 2 || a != 3 || b != 4 || c != 5 || len(p.m.group(3)) != 2 || len(p.m.group(5)) != 1 || p.x.Front(4) != 2 {
		t.Fatalf("no shell: %v", p.x.All())
	}
	return p
}

// P21.1: at first there is the process 1 alone; each table is by itself.
func TestNew(t *testing.T) {
	a, b := proc.New(), proc.New()
	a.Fork(1)
	a.Attach(1, 4)
	a.Deaf(1, true)
	first := api.Proc{Pid: 1, Group: 1, Session: 1}
	for _, x := range []*proc.Table{b, proc.New()} {
		if l := x.All(); !slices.Equal(l, []api.Proc{first}) {
			t.Fatalf("All = %v", l)
		}
		if q, ok := x.Get(1); q != first || !ok || !x.Orphan(1) {
			t.Fatalf("Get = %v, %v", q, ok)
		}
		for n := -1; n <= lastTty+1; n++ {
			want(t, "Front", x.Front(n), 0)
		}
		n, e := x.Fork(1)
		want(t, "Fork", n, 2)
		want(t, "Fork", e, api.OK)
	}
}

// The chapter's example: a child in the background that reads.
func TestExample(t *testing.T) {
	x := proc.New()
	s, _ := x.Fork(1)
	x.Setsid(s)
	x.Attach(s, 1)
	c, _ := x.Fork(s)
	x.Setpgid(s, c, 0)
	n, sigs := x.May(c, 1, false, false)
	want(t, "May", n, api.TtyStop)
	wantSignals(t, "May", sigs, api.Signal{Group: c, Sig: api.SigTtin})
}

// P21.1: Fork: the child is like its parent in all but its number and its parent.
func TestFork(t *testing.T) {
	p := shell(t)
	p.deaf(3, true)
	for i, parent := range []int{3, 2, 1, 5, 6} {
		child := p.fork(parent)
		want(t, "number", child, 6+i)
		a, _ := p.x.Get(parent)
		b, _ := p.x.Get(child)
		a.Pid, a.Parent = child, parent
		want(t, "child", b, a)
	}
	// What comes later of the parent doesn't come to the child.
	p.deaf(3, false)
	if q, _ := p.x.Get(6); !q.Deaf {
		t.Error("the child isn't deaf any more")
	}
	for _, pid := range []int{math.MinInt, -1, 0, 11, math.MaxInt} {
		want(t, "of no process", p.fork(pid), 0)
	}
	p.exit(6)
	want(t, "of one that went", p.fork(6), 0)
	want(t, "behind errors", p.fork(3), 11)
}

// P21.1: there are at most 256; where one went there is room for one again, and no number comes twice.
func TestFull(t *testing.T) {
	p := pairNew(t)
	for i := 2; i <= most; i++ {
		n, e := p.x.Fork(i / 2)
		if m, _ := p.m.fork(i / 2); n != i || m != i || e != api.OK {
			t.Fatalf("Fork = %d, %v", n, e)
		}
	}
	p.whole()
	for _, x := range []struct {
		pid int
		e   api.Errno
	}{{1, api.ErrFull}, {most, api.ErrFull}, {most + 1, api.ErrNone}, {0, api.ErrNone}} {
		n, e := p.x.Fork(x.pid)
		want(t, "one too many", n, 0)
		want(t, "one too many", e, x.e)
	}
	for k, pid := range []int{most, 100, 2, most - 1, 1, most + 1} {
		p.exit(pid)
		want(t, "in the room of one that went", p.fork(3), most+1+k)
		want(t, "one too many", p.fork(3), 0)
		want(t, "of one that went", p.fork(pid), 0)
	}
	for _, q := range p.x.All() {
		p.exit(q.Pid)
	}
	want(t, "how many are there", len(p.x.All()), 0)
	want(t, "of none", p.fork(1), 0)
}

// P21.1: Setsid: its own group and session, without a terminal.
func TestSetsid(t *testing.T) {
	p := shell(t)
	p.deaf(4, true)
	want(t, "a job's second process", p.setsid(4), api.OK)
	q, _ := p.x.Get(4)
	want(t, "process", q, api.Proc{Pid: 4, Parent: 2, Group: 4, Session: 4, Deaf: true})
	want(t, "a leader of a session", p.setsid(4), api.ErrPerm)
	want(t, "a leader of a session", p.setsid(2), api.ErrPerm)
	want(t, "a leader of a session", p.setsid(1), api.ErrPerm)
	want(t, "a leader of a group", p.setsid(3), api.ErrPerm)
	p.allMay()
	for _, pid := range bounds() {
		if pid < 1 || pid > 5 {
			want(t, "none", p.setsid(pid), api.ErrNone)
		}
	}
}

// P21.1: Setsid: a group of its number may have others than it.
func TestSetsidLeft(t *testing.T) {
	p := shell(t)
	want(t, "leaving", p.setpgid(3, 0, 5), api.OK)
	want(t, "its group is there", p.setsid(3), api.ErrPerm)
	want(t, "the other one leaves", p.setpgid(4, 4, 5), api.OK)
	want(t, "its group isn't there", p.setsid(3), api.OK)
	p.exit(4)
	p.exit(3)
	want(t, "of one that went", p.setsid(3), api.ErrNone)
}

// P21.1: Setpgid: who it may be, and which group.
func TestSetpgid(t *testing.T) {
	for i, x := range []struct {
		pid, who, group int
		e               api.Errno
		is              int // the group of who then
	}{
		{3, 3, 3, api.OK, 3}, {3, 0, 0, api.OK, 3}, {3, 3, 5, api.OK, 5}, {3, 0, 5, api.OK, 5}, {3, 0, 2, api.OK, 2},
		{2, 3, 2, api.OK, 2}, {2, 3, 5, api.OK, 5}, {2, 4, 0, api.OK, 4}, {2, 4, 4, api.OK, 4}, {4, 0, 0, api.OK, 4}, {4, 4, 3, api.OK, 3},
		{2, 5, 3, api.OK, 3}, {5, 0, 3, api.OK, 3},
		// No child of pid.
		{3, 4, 3, api.ErrNone, 3}, {4, 3, 3, api.ErrNone, 3}, {3, 2, 3, api.ErrNone, 2}, {1, 3, 3, api.ErrNone, 3}, {2, 9, 3, api.ErrNone, 0},
		{9, 3, 3, api.ErrNone, 3}, {9, 9, 3, api.ErrNone, 0}, {9, 0, 0, api.ErrNone, 0}, {0, 0, 0, api.ErrNone, 0}, {0, 3, 0, api.ErrNone, 3}, {0, 1, 0, api.ErrNone, 1}, {-1, -1, 0, api.ErrNone, 0},
		{2, -1, 0, api.ErrNone, 0}, {2, 1, 1, api.ErrNone, 1},
		// ErrNone is looked for ahead of ErrArg, and that ahead of ErrPerm.
		{9, 9, -1, api.ErrNone, 0}, {2, 9, -1, api.ErrNone, 0}, {3, 4, -1, api.ErrNone, 3}, {2, 2, -1, api.ErrArg, 2}, {1, 2, -1, api.ErrArg, 2}, {3, 0, -1, api.ErrArg, 3}, {3, 3, math.MinInt, api.ErrArg, 3},
		// Leaders of sessions, and other sessions.
		{2, 2, 2, api.ErrPerm, 2}, {2, 0, 0, api.ErrPerm, 2}, {2, 2, 3, api.ErrPerm, 2}, {1, 0, 0, api.ErrPerm, 1}, {1, 2, 0, api.ErrPerm, 2}, {1, 2, 1, api.ErrPerm, 2},
		// No such group in that session.
		{3, 3, 4, api.ErrPerm, 3}, {3, 3, 1, api.ErrPerm, 3}, {3, 3, 9, api.ErrPerm, 3}, {2, 4, 5 + 1<<32, api.ErrPerm, 3}, {2, 4, math.MaxInt, api.ErrPerm, 3},
	} {
		p := shell(t)
		e := p.setpgid(x.pid, x.who, x.group)
		who := x.who
		if who == 0 {
			who = x.pid
		}
		q, _ := p.x.Get(who)
		if e != x.e || q.Group != x.is {
			t.Errorf("%d: Setpgid(%d, %d, %d) = %v, %v, want %v, %d", i, x.pid, x.who, x.group, e, q, x.e, x.is)
		}
		p.allMay()
	}
}

// P21.1: Setpgid: a child that is of another session than pid, though it leads none.
func TestSetpgidAway(t *testing.T) {
	p := shell(t)
	g := p.fork(3) // 6
	p.setsid(3 + 1)
	c := p.fork(4) // 7, of the session 4
	p.setsid(c)
	d := p.fork(c) // 8, of the session 7
	p.exit(c)      // 8 comes to 1
	want(t, "a child of another session", p.setpgid(1, d, 0), api.ErrPerm)
	want(t, "into a group of pid's session", p.setpgid(1, d, 1), api.ErrPerm)
	want(t, "itself", p.setpgid(d, d, 0), api.OK)
	want(t, "its group is another one now", p.setpgid(d, d, c), api.ErrPerm)
	want(t, "a grandchild", p.setpgid(2, g, 0), api.ErrNone)
	p.exit(3)
	want(t, "a child that came to another one", p.setpgid(3, g, 0), api.ErrNone)
	want(t, "of another session", p.setpgid(1, g, 0), api.ErrPerm)
}

// P21.1: Deaf.
func TestDeaf(t *testing.T) {
	p := shell(t)
	for _, deaf := range []bool{true, true, false, false, true} {
		want(t, "Deaf", p.deaf(4, deaf), api.OK)
		q, _ := p.x.Get(4)
		want(t, "process", q, api.Proc{Pid: 4, Parent: 2, Group: 3, Session: 2, Tty: 4, Deaf: deaf})
		p.allMay()
	}
	for _, pid := range bounds() {
		if pid < 1 || pid > 5 {
			want(t, "none", p.deaf(pid, true), api.ErrNone)
		}
	}
}

// P21.2: Attach: all of the session have the terminal, pid's group is in the foreground.
func TestAttach(t *testing.T) {
	p := pairNew(t)
	s := p.fork(1)
	p.setsid(s)
	a, b := p.fork(s), p.fork(1)
	p.setpgid(s, a, 0)
	for _, x := range []struct {
		pid, tty int
		e        api.Errno
	}{
		{9, 1, api.ErrNone}, {0, 1, api.ErrNone}, {-1, 0, api.ErrNone},
		{s, 0, api.ErrArg}, {s, -1, api.ErrArg}, {s, lastTty + 1, api.ErrArg}, {a, 0, api.ErrArg}, {s, 1 + 1<<32, api.ErrArg},
		{a, 7, api.ErrPerm}, {b, 7, api.ErrPerm},
		{s, 7, api.OK},
		{s, 7, api.ErrPerm}, {s, 8, api.ErrPerm}, {1, 7, api.ErrPerm}, {s, 0, api.ErrArg},
		{1, lastTty, api.OK},
		{1, lastTty, api.ErrPerm},
	} {
		if e := p.attach(x.pid, x.tty); e != x.e {
			t.Errorf("Attach(%d, %d) = %v, want %v", x.pid, x.tty, e, x.e)
		}
		p.allMay()
	}
	for pid, tty := range map[int]int{1: lastTty, s: 7, a: 7, b: lastTty, p.fork(a): 7, p.fork(b): lastTty} {
		q, _ := p.x.Get(pid)
		want(t, "terminal", q.Tty, tty)
	}
	want(t, "foreground", p.x.Front(7), s)
	want(t, "foreground", p.x.Front(lastTty), 1)
}

// P21.2: Attach: each number of a terminal, for sessions of their own.
func TestAttachEach(t *testing.T) {
	p := pairNew(t)
	for n := 1; n <= lastTty; n++ {
		s := p.fork(1)
		p.setsid(s)
		want(t, "Attach", p.attach(s, n), api.OK)
		want(t, "Attach of 1", p.attach(1, n), api.ErrPerm)
	}
	for n := 1; n <= lastTty; n++ {
		want(t, "foreground", p.x.Front(n), n+1)
		p.hangup(n)
		want(t, "foreground", p.x.Front(n), 0)
		other, e := lastTty+1-n, api.ErrPerm
		if other < n {
			e = api.OK
		}
		want(t, "Attach anew", p.attach(n+1, other), e)
	}
}

// P21.2: Foreground.
func TestForeground(t *testing.T) {
	for i, x := range []struct {
		pid, tty, group int
		e               api.Errno
	}{
		{2, 4, 3, api.OK}, {2, 4, 5, api.OK}, {2, 4, 2, api.OK}, {4, 4, 5, api.OK}, {5, 4, 5, api.OK},
		{9, 4, 3, api.ErrNone}, {0, 0, 0, api.ErrNone}, {-1, 4, 9, api.ErrNone},
		{1, 4, 3, api.ErrNotTTY}, {1, 0, 1, api.ErrNotTTY}, {2, 0, 3, api.ErrNotTTY}, {2, 5, 3, api.ErrNotTTY}, {2, -4, 9, api.ErrNotTTY}, {2, 4 + 1<<32, 3, api.ErrNotTTY}, {2, 99, 3, api.ErrNotTTY},
		{2, 4, 4, api.ErrPerm}, {2, 4, 1, api.ErrPerm}, {2, 4, 0, api.ErrPerm}, {2, 4, -1, api.ErrPerm}, {2, 4, 9, api.ErrPerm}, {2, 4, 3 + 1<<32, api.ErrPerm},
	} {
		p := shell(t)
		e := p.foreground(x.pid, x.tty, x.group)
		front := 2
		if x.e == api.OK {
			front = x.group
		}
		if e != x.e || p.x.Front(4) != front {
			t.Errorf("%d: Foreground(%d, %d, %d) = %v, %d", i, x.pid, x.tty, x.group, e, p.x.Front(4))
		}
		p.allMay()
	}
}

// P21.2: the foreground group stays that, when it has no processes any more.
func TestForegroundEmpty(t *testing.T) {
	p := shell(t)
	p.foreground(2, 4, 5)
	p.exit(5)
	want(t, "foreground", p.x.Front(4), 5)
	want(t, "orphan", p.x.Orphan(5), false)
	want(t, "a group that went", p.foreground(2, 4, 5), api.ErrPerm)
	p.allMay()
	wantSignals(t, "Hangup", p.hangup(4))
	want(t, "foreground", p.x.Front(4), 0)
	want(t, "Attach anew", p.attach(2, 4), api.OK)
	want(t, "foreground", p.x.Front(4), 2)
}

// P21.2: which groups are orphans.
func TestOrphan(t *testing.T) {
	p := shell(t)
	for g, o := range map[int]bool{1: true, 2: true, 3: false, 5: false, 4: false, 0: false, -1: false, 9: false} {
		want(t, "at first", p.x.Orphan(g), o)
	}
	a := p.fork(3) // of the group 3, with a parent of it
	p.exit(4)
	want(t, "3 has the parent 2", p.x.Orphan(3), false)
	p.setpgid(3, a, 0)
	want(t, "a has the parent 3", p.x.Orphan(a), false)
	p.setpgid(3, a, 3)
	p.setpgid(3, 3, 2)
	want(t, "a has the parent 3, of another group", p.x.Orphan(3), false)
	p.setpgid(3, 3, 0)
	p.setsid(5)
	want(t, "nothing for 5", p.x.Orphan(5), false)
	p.exit(2)
	want(t, "the parent is of another session", p.x.Orphan(3), true)
	p.exit(1)
	want(t, "there is no parent", p.x.Orphan(3), true)
	p.exit(3)
	want(t, "one is left", p.x.Orphan(3), true)
	p.exit(a)
	want(t, "none is left", p.x.Orphan(3), false)
}

// P21.2: a parent of the same session, and one of the session of the process 1.
func TestOrphanOfFirst(t *testing.T) {
	p := pairNew(t)
	a := p.fork(1)
	want(t, "of 1's group", p.x.Orphan(1), true)
	p.setpgid(1, a, 0)
	want(t, "a group beside it", p.x.Orphan(a), false)
	b := p.fork(a)
	wantSignals(t, "b comes to 1", p.exit(a))
	want(t, "b has the parent 1", p.x.Orphan(a), false)
	wantSignals(t, "1 goes", p.exit(1), hup(a), cont(a))
	c := p.fork(b)
	p.setpgid(b, c, 0)
	want(t, "c has the parent b", p.x.Orphan(c), false)
	wantSignals(t, "b goes", p.exit(b), hup(c), cont(c))
	q, _ := p.x.Get(c)
	want(t, "the parent, though there is no 1", q.Parent, 1)
}

// P21.3: Exit: it is there no more, and its children's parent is 1; 0, if it is 1 itself.
func TestExit(t *testing.T) {
	p := shell(t)
	a, b := p.fork(3), p.fork(3)
	wantSignals(t, "Exit", p.exit(3))
	for pid, parent := range map[int]int{1: 0, 2: 1, 4: 2, 5: 2, a: 1, b: 1} {
		q, _ := p.x.Get(pid)
		want(t, "parent", q.Parent, parent)
	}
	if _, ok := p.x.Get(3); ok || len(p.x.All()) != 6 {
		t.Error("it is there")
	}
	p.allMay()
	p.exit(1)
	for pid, parent := range map[int]int{2: 0, 4: 2, 5: 2, a: 0, b: 0} {
		q, _ := p.x.Get(pid)
		want(t, "parent without 1", q.Parent, parent)
	}
	p.allMay()
	for _, pid := range append(bounds(), 1, 3) {
		if _, there := p.m.procs[pid]; !there {
			wantSignals(t, "of none", p.exit(pid))
		}
	}
}

// P21.3: Exit of a leader: SigHup to the foreground group, ahead of what orphans are told.
func TestExitLeader(t *testing.T) {
	for _, x := range []struct {
		front int
		sigs  []api.Signal
	}{
		// Nobody but the leader is of its group.
		{2, []api.Signal{hup(3), cont(3), hup(5), cont(5)}},
		{3, []api.Signal{hup(3), hup(3), cont(3), hup(5), cont(5)}},
		{5, []api.Signal{hup(5), hup(3), cont(3), hup(5), cont(5)}},
	} {
		p := shell(t)
		p.foreground(2, 4, x.front)
		wantSignals(t, "Exit", p.exit(2), x.sigs...)
		want(t, "foreground", p.x.Front(4), 0)
		for _, q := range p.x.All() {
			want(t, "terminal", q.Tty, 0)
		}
		p.allMay()
		want(t, "another session", p.attach(1, 4), api.OK)
	}
}

// P21.3: Exit of a leader with others of its group, which is in the foreground.
func TestExitLeaderOfMore(t *testing.T) {
	p := shell(t)
	a := p.fork(2)
	wantSignals(t, "Exit", p.exit(2), hup(2), hup(3), cont(3), hup(5), cont(5))
	q, _ := p.x.Get(a)
	want(t, "who is left", q, api.Proc{Pid: a, Parent: 1, Group: 2, Session: 2})
	wantSignals(t, "Hangup", p.hangup(4))
}

// P21.3: Exit of a leader without a terminal, and of one that leads no session.
func TestExitOthers(t *testing.T) {
	p := shell(t)
	p.foreground(2, 4, 3)
	p.hangup(4)
	wantSignals(t, "a leader without a terminal", p.exit(2), hup(3), cont(3), hup(5), cont(5))
	p = shell(t)
	p.foreground(2, 4, 3)
	wantSignals(t, "a leader of a group", p.exit(3))
	want(t, "foreground", p.x.Front(4), 3)
	p.allMay()
	p = shell(t)
	want(t, "1 has a terminal", p.attach(1, 9), api.OK)
	a := p.fork(1)
	wantSignals(t, "Exit of 1", p.exit(1), hup(1))
	q, _ := p.x.Get(a)
	want(t, "who is left", q, api.Proc{Pid: a, Group: 1, Session: 1})
}

// P21.3: Exit: just those groups are told that weren't orphans, rising by their numbers; those without processes aren't.
func TestExitOrphans(t *testing.T) {
	p := pairNew(t)
	s := p.fork(1) // 2
	p.setsid(s)
	top := p.fork(s) // 3
	p.setpgid(s, top, 0)
	var jobs []int
	for range 5 { // 4 to 8
		jobs = append(jobs, p.fork(top))
	}
	p.setpgid(top, jobs[3], 0)
	p.setpgid(top, jobs[1], 0)
	p.setpgid(top, jobs[4], jobs[1])
	p.setpgid(top, jobs[2], 0)
	p.setsid(jobs[0])
	p.fork(jobs[2])
	kept := p.fork(s) // of the group jobs[3], with another parent
	p.setpgid(s, kept, jobs[3])
	p.setpgid(top, 0, s)
	wantSignals(t, "Exit", p.exit(top), hup(jobs[1]), cont(jobs[1]), hup(jobs[2]), cont(jobs[2]))
	wantSignals(t, "of one that was an orphan", p.exit(jobs[4]))
	wantSignals(t, "the last of its group", p.exit(jobs[1]))
	wantSignals(t, "who held none", p.exit(jobs[3]))
	wantSignals(t, "the last of its group, that was none", p.exit(kept))
}

// P21.3: Exit: one that goes may be the one that kept its own group from being an orphan.
func TestExitOfTie(t *testing.T) {
	p := shell(t)
	a := p.fork(4) // of the group 3, with a parent of it
	wantSignals(t, "one of three", p.exit(3))
	wantSignals(t, "the child of 2", p.exit(4), hup(3), cont(3))
	want(t, "orphan", p.x.Orphan(3), true)
	wantSignals(t, "the last one", p.exit(a))
}

// P21.3: Hangup.
func TestHangup(t *testing.T) {
	p := shell(t)
	for _, n := range bounds() {
		if n != 4 {
			wantSignals(t, "a terminal without a session", p.hangup(n))
		}
	}
	p.foreground(2, 4, 5)
	wantSignals(t, "Hangup", p.hangup(4), hup(5), cont(5))
	want(t, "foreground", p.x.Front(4), 0)
	for _, q := range p.x.All() {
		want(t, "terminal", q.Tty, 0)
	}
	p.allMay()
	wantSignals(t, "once more", p.hangup(4))
	want(t, "no terminal", p.foreground(2, 4, 5), api.ErrNotTTY)
	want(t, "another terminal", p.attach(2, 9), api.OK)
	want(t, "the same one", p.attach(1, 4), api.OK)
	wantSignals(t, "of another session", p.hangup(4), hup(1), cont(1))
	want(t, "it stays", p.x.Front(9), 2)
	q, _ := p.x.Get(5)
	want(t, "it stays", q.Tty, 9)
}

// P21.3: a foreground group that went, and whose number is a group of another session's now.
func TestFrontElsewhere(t *testing.T) {
	for _, hang := range []bool{false, true} {
		p := shell(t)
		p.foreground(2, 4, 5)
		p.setpgid(5, 0, 3)
		want(t, "Setsid", p.setsid(5), api.OK)
		want(t, "no such group in that session", p.foreground(2, 4, 5), api.ErrPerm)
		want(t, "foreground", p.x.Front(4), 5)
		p.allMay()
		if hang {
			wantSignals(t, "Hangup", p.hangup(4), hup(5), cont(5))
		} else {
			wantSignals(t, "Exit", p.exit(2), hup(5), hup(3), cont(3))
		}
	}
}

// P21.4: May, of who is in the foreground, in the background, deaf, and of an orphan.
func TestMay(t *testing.T) {
	const read, write, stopped = 0, 1, 3 // a read, a write without Tostop, one with it
	ttin, ttou := []api.Signal{{Group: 3, Sig: api.SigTtin}}, []api.Signal{{Group: 3, Sig: api.SigTtou}}
	for i, x := range []struct {
		front, deaf, orphan bool
		how                 int
		may                 int
		sigs                []api.Signal
	}{
		{false, false, false, read, api.TtyStop, ttin},
		{false, false, false, write, api.TtyGo, nil},
		{false, false, false, stopped, api.TtyStop, ttou},
		{false, false, true, read, api.TtyFail, nil},
		{false, false, true, write, api.TtyGo, nil},
		{false, false, true, stopped, api.TtyFail, nil},
		{false, true, false, read, api.TtyFail, nil},
		{false, true, false, write, api.TtyGo, nil},
		{false, true, false, stopped, api.TtyGo, nil},
		{false, true, true, read, api.TtyFail, nil},
		{false, true, true, write, api.TtyGo, nil},
		{false, true, true, stopped, api.TtyGo, nil},
		{true, false, false, read, api.TtyGo, nil},
		{true, false, false, stopped, api.TtyGo, nil},
		{true, true, false, read, api.TtyGo, nil},
		{true, true, true, read, api.TtyGo, nil},
		{true, false, true, stopped, api.TtyGo, nil},
	} {
		p := shell(t)
		pid := 4
		p.deaf(4, x.deaf)
		if x.front {
			p.foreground(2, 4, 3)
		}
		if x.orphan {
			p.fork(3) // like its parent, and of its group
			pid = p.fork(4)
			p.exit(3)
			p.exit(4)
		}
		want(t, "orphan", p.x.Orphan(3), x.orphan)
		may, sigs := p.x.May(pid, 4, x.how&1 != 0, x.how&2 != 0)
		if may != x.may || !slices.Equal(sigs, x.sigs) {
			t.Errorf("%d: May = %d, %v, want %d, %v", i, may, sigs, x.may, x.sigs)
		}
		p.whole()
		p.allMay()
	}
}

// P21.4: May of a terminal that isn't the process's, and of no process; Tostop is nothing to a read.
func TestMayOthers(t *testing.T) {
	p := shell(t)
	for _, n := range bounds() {
		for k := range 4 {
			may, sigs := p.x.May(9, n, k&1 != 0, k&2 != 0)
			want(t, "no process", may, api.TtyFail)
			wantSignals(t, "no process", sigs)
			for pid := 1; pid <= 5; pid++ {
				if n == 4 && pid > 2 {
					continue
				}
				may, sigs = p.x.May(pid, n, k&1 != 0, k&2 != 0)
				want(t, "another terminal", may, api.TtyGo)
				wantSignals(t, "another terminal", sigs)
			}
		}
	}
	for _, pid := range bounds() {
		p.mays(pid, bounds()...)
	}
	may, sigs := p.x.May(3, 4, false, true)
	want(t, "a read with Tostop", may, api.TtyStop)
	wantSignals(t, "a read with Tostop", sigs, api.Signal{Group: 3, Sig: api.SigTtin})
}

// call makes a call, told by the numbers.
func (p *pair) call(kind, a, b, c int) {
	p.Helper()
	switch kind {
	case 0:
		p.fork(a)
	case 1:
		p.setsid(a)
	case 2:
		p.setpgid(a, b, c)
	case 3:
		p.attach(a, b)
	case 4:
		p.foreground(a, b, c)
	case 5:
		p.deaf(a, b&1 != 0)
	case 6:
		p.exit(a)
	default:
		p.hangup(b)
	}
}

// P1, R1, R2, R5: every number at all bounds, for each call.
func TestBounds(t *testing.T) {
	all := bounds()
	for kind := range 8 {
		p := shell(t)
		for _, a := range all {
			for _, b := range all {
				for _, c := range []int{math.MinInt, -1, 0, 1, 3, 5, 4, 9, 1<<32 + 3, math.MaxInt} {
					before := len(p.m.procs)
					p.call(kind, a, b, c)
					if len(p.m.procs) < before { // so that there is always somebody
						p = shell(t)
					}
					if kind < 2 || kind > 4 {
						break
					}
				}
				if kind != 7 && (kind < 2 || kind > 4) {
					break
				}
			}
		}
		p.allMay()
	}
	p := shell(t)
	for _, n := range all {
		want(t, "Front", p.x.Front(n), p.m.front(n))
		want(t, "Orphan", p.x.Orphan(n), p.m.orphan(n))
		q, ok := p.x.Get(n)
		r, there := p.m.procs[n]
		want(t, "Get", q, r)
		want(t, "Get", ok, there)
	}
}

// P21.1 to P21.5: all rows of calls on two small tables.
func TestEach(t *testing.T) {
	steps := [][4]int{
		{0, 1}, {0, 2}, {0, 3}, {1, 2}, {1, 3}, {2, 2, 3, 0}, {2, 2, 3, 2}, {2, 3, 0, 0}, {2, 3, 3, 2}, {3, 2, 4}, {3, 1, 4},
		{4, 2, 4, 3}, {4, 3, 4, 2}, {5, 3, 1}, {6, 1}, {6, 2}, {6, 3}, {7, 0, 4},
	}
	const calls = 3
	total := 1
	for range calls {
		total *= len(steps)
	}
	for n := range total {
		for _, p := range []*pair{pairNew(t), shell(t)} {
			for k, rest := 0, n; k < calls; k, rest = k+1, rest/len(steps) {
				s := steps[rest%len(steps)]
				p.call(s[0], s[1], s[2], s[3])
			}
			p.allMay()
			p.exit(3)
			p.exit(2)
		}
	}
}

// any makes any call, most of them with numbers that there are.
func (p *pair) any(c *rand.Rand) {
	p.Helper()
	num := func() int {
		if l := p.m.all(); len(l) > 0 && c.IntN(12) > 0 {
			q := l[c.IntN(len(l))]
			return []int{q.Pid, q.Group, q.Session, q.Parent}[c.IntN(8)&3*c.IntN(2)]
		}
		return c.IntN(p.m.made+3) - 1
	}
	a := num()
	switch k := c.IntN(100); {
	case k < 25:
		p.call(0, a, 0, 0)
	case k < 32:
		p.call(1, a, 0, 0)
	case k < 55:
		b, g := a, num()
		for _, q := range p.m.all() {
			if q.Parent == a && c.IntN(2) == 0 {
				b = q.Pid
			}
		}
		p.call(2, a, b, []int{g, 0, b}[c.IntN(3)])
	case k < 63:
		p.call(3, a, c.IntN(6), 0)
	case k < 75:
		p.call(4, a, p.m.procs[a].Tty, num())
	case k < 80:
		p.call(5, a, c.IntN(2), 0)
	case k < 96:
		p.call(6, a, 0, 0)
	case k < 98:
		p.call(7, 0, c.IntN(6), 0)
	default:
		p.call(c.IntN(8), num(), c.IntN(6), num())
	}
}

// P21.1 to P21.5: any calls, one behind the other.
func TestAny(t *testing.T) {
	c := rand.New(rand.NewPCG(21, 1))
	for range 300 {
		p := pairNew(t)
		if c.IntN(2) == 0 {
			p = shell(t)
		}
		for range 120 {
			p.any(c)
			p.mays(c.IntN(p.m.made+2), 0, 1, 2, 3, 4, 5)
		}
		p.allMay()
		for _, pid := range p.m.pids() {
			p.exit(pid)
		}
	}
}

// P21.1 to P21.5: any calls on a table that is full, or nearly so.
func TestAnyFull(t *testing.T) {
	c := rand.New(rand.NewPCG(21, 2))
	for range 3 {
		p := shell(t)
		for len(p.m.procs) < most-c.IntN(3) {
			parent := 1 + c.IntN(p.m.made)
			n, e := p.x.Fork(parent)
			if m, _ := p.m.fork(parent); n != m || e != api.OK {
				t.Fatalf("Fork = %d, %v", n, e)
			}
			if who := p.m.made; c.IntN(2) == 0 {
				p.is(p.x.Setpgid(who, who, 0), p.m.setpgid(who, who, 0))
			}
		}
		for range 60 {
			p.any(c)
		}
		p.allMay()
	}
}

// R3, R4: what is answered may be written over and appended to, and isn't changed by what is called later.
func TestMemory(t *testing.T) {
	spoil := func(l []api.Proc) {
		for i := range l[:cap(l)] {
			l[:cap(l)][i] = api.Proc{Pid: 77, Parent: 77, Group: 77, Session: 77, Tty: 7}
		}
		_ = append(l[:0], api.Proc{Pid: 78})
	}
	spoilSignals := func(l []api.Signal) {
		for i := range l[:cap(l)] {
			l[:cap(l)][i] = api.Signal{Group: 77, Sig: 77}
		}
		_ = append(l[:0], api.Signal{Group: 78})
	}
	c := rand.New(rand.NewPCG(21, 3))
	for range 50 {
		p := shell(t)
		for range 40 {
			p.any(c)
			spoil(p.x.All())
			p.whole()
			kept, was := p.x.All(), p.m.all()
			p.any(c)
			_, sigs := p.x.May(3, 4, false, false)
			_, wants := p.m.may(3, 4, false, false)
			gone := p.x.Exit(4)
			wantGone := p.m.exit(4)
			p.any(c)
			if !slices.Equal(kept, was) || !slices.Equal(sigs, wants) || !slices.Equal(gone, wantGone) {
				t.Fatalf("what was answered is changed: %v, %v, %v", kept, sigs, gone)
			}
			spoil(kept)
			spoilSignals(sigs)
			spoilSignals(gone)
			hung := p.x.Hangup(4)
			p.m.hangup(4)
			spoilSignals(hung)
			p.whole()
			p.allMay()
		}
	}
}

// R6: the same calls have the same answers, whatever was asked between, and whatever other tables do.
func TestOneAnswer(t *testing.T) {
	c := rand.New(rand.NewPCG(21, 4))
	for range 60 {
		a, b, other := shell(t), shell(t), pairNew(t)
		for range 60 {
			seed := c.Uint64()
			a.any(rand.New(rand.NewPCG(seed, 0)))
			other.any(c)
			b.any(rand.New(rand.NewPCG(seed, 0)))
			for range 2 {
				pid := c.IntN(8)
				m, sigs := a.x.May(pid, 4, false, false)
				n, same := b.x.May(pid, 4, false, false)
				if m != n || !slices.Equal(sigs, same) || !slices.Equal(a.x.All(), b.x.All()) {
					t.Fatal("there are two answers")
				}
			}
		}
	}
}

// P1, R1: every call ends and none panics, at any argument.
func FuzzAll(f *testing.F) {
	f.Add(1, 2, 3, []byte{0, 8, 17, 35, 60, 6, 255})
	f.Add(-1, 0, math.MinInt, []byte{0, 0, 0, 1, 2, 3, 4, 5, 6, 7})
	f.Add(math.MaxInt, math.MaxInt, math.MaxInt, []byte{200, 100, 50})
	f.Add(2, 4, 5, []byte{12, 14, 6, 22, 7, 15, 0, 33})
	f.Fuzz(func(t *testing.T, a, b, c int, calls []byte) {
		p := shell(t)
		for i, k := range calls[:min(len(calls), 60)] {
			p.call(int(k%8), a, b, c)
			near := int(k / 8)
			p.call(int(k%8), near%7, near/7+i%3, near%6)
			p.call(i%8, near%7, near%7, c)
			p.mays(a, b, c, 4)
			p.mays(near%7, b, 4)
		}
		for _, pid := range p.m.pids() {
			p.exit(pid)
		}
	})
}

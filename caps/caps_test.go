package caps_test

import (
	"fmt"
	"math"
	"math/rand/v2"
	"slices"
	"testing"

	"betony/api"
	"betony/caps"
)

const (
	most = 4096 // slots
	use  = api.MayUse
	give = api.MayShare
	drop = api.MayDrop
	full = use | give | drop
)

// none names nothing.
var none api.Cap

// bounds are numbers at all bounds, on either side.
func bounds() []int {
	return []int{math.MinInt, math.MinInt + 1, -1 << 32, -8, -7, -4, -2, -1, 0, 1, 2, 3, 4, 5, 6, 7, 8, 9, 255, 256, most - 1, most, most + 1, 1 << 30, 1<<32 - 1, 1 << 32, 1<<32 + 1, math.MaxInt - 1, math.MaxInt}
}

// held is a capability by the chapter's words.
type held struct {
	name                   api.Cap
	env, kind, obj, rights int
	of                     *held
}

// words is a table by the words: what its slots have, and how many went from each.
type words struct {
	slots, quota int
	has          map[int]*held
	went         map[int]int
}

// wordsNew is an empty table by the words.
func wordsNew(slots, quota int) *words {
	return &words{slots: slots, quota: quota, has: map[int]*held{}, went: map[int]int{}}
}

// all is the capabilities that which tells, by their slots.
func (m *words) all(which func(h *held) bool) []*held {
	var l []*held
	for i := range m.slots {
		if h := m.has[i]; h != nil && which(h) {
			l = append(l, h)
		}
	}
	return l
}

// below is who stands below h: those that were made of it, and whoever stands below these.
func (m *words) below(h *held) []*held {
	var l []*held
	for _, o := range m.all(func(o *held) bool { return o.of == h }) {
		l = append(append(l, o), m.below(o)...)
	}
	return l
}

// count is Count by the words.
func (m *words) count(env int) int {
	return len(m.all(func(h *held) bool { return h.env == env }))
}

// put is what Mint and Share have alike: the quota, and the first free slot.
func (m *words) put(h *held) (api.Cap, api.Errno) {
	if m.count(h.env) >= m.quota {
		return none, api.ErrLimit
	}
	for i := range m.slots {
		if m.has[i] == nil {
			h.name = api.Cap{Slot: i, Gen: m.went[i] + 1}
			m.has[i] = h
			return h.name, api.OK
		}
	}
	return none, api.ErrFull
}

// mint is Mint by the words.
func (m *words) mint(env, kind, obj, rights int) (api.Cap, api.Errno) {
	if env < 0 || obj < 0 || kind < 1 || kind > 3 || rights < 1 || rights > 7 {
		return none, api.ErrArg
	}
	return m.put(&held{env: env, kind: kind, obj: obj, rights: rights})
}

// find is what c names; nil: c is stale.
func (m *words) find(c api.Cap) *held {
	if h := m.has[c.Slot]; h != nil && h.name == c {
		return h
	}
	return nil
}

// hasAll tells whether h has each of rights, bit by bit.
func (h *held) hasAll(rights int) bool {
	for bit := range 64 {
		if uint(rights)>>bit&1 == 1 && uint(h.rights)>>bit&1 == 0 {
			return false
		}
	}
	return true
}

// share is Share by the words.
func (m *words) share(env int, c api.Cap, to, rights int) (api.Cap, api.Errno) {
	h := m.find(c)
	if h == nil {
		return none, api.ErrStale
	}
	if h.env != env || !h.hasAll(give) {
		return none, api.ErrPerm
	}
	if to < 0 || rights < 1 || rights > 7 {
		return none, api.ErrArg
	}
	if !h.hasAll(rights) {
		return none, api.ErrPerm
	}
	return m.put(&held{env: to, kind: h.kind, obj: h.obj, rights: rights, of: h})
}

// check is Check by the words.
func (m *words) check(env int, c api.Cap, kind, rights int) (int, api.Errno) {
	h := m.find(c)
	if h == nil {
		return 0, api.ErrStale
	}
	if h.env != env {
		return 0, api.ErrPerm
	}
	if h.kind != kind {
		return 0, api.ErrKind
	}
	if !h.hasAll(rights) {
		return 0, api.ErrPerm
	}
	return h.obj, api.OK
}

// end lets l go, and who stands below them, and tells how many that are.
func (m *words) end(l []*held) int {
	all := map[*held]int{}
	for _, h := range l {
		all[h]++
		for _, o := range m.below(h) {
			all[o]++
		}
	}
	for h := range all {
		delete(m.has, h.name.Slot)
		m.went[h.name.Slot]++
	}
	return len(all)
}

// revoke is Revoke by the words.
func (m *words) revoke(env int, c api.Cap) (int, api.Errno) {
	h := m.find(c)
	if h == nil {
		return 0, api.ErrStale
	}
	if h.env != env {
		return 0, api.ErrPerm
	}
	return m.end(m.below(h)), api.OK
}

// drop is Drop by the words.
func (m *words) drop(env int, c api.Cap) (int, api.Errno) {
	h := m.find(c)
	if h == nil {
		return 0, api.ErrStale
	}
	if h.env != env || !h.hasAll(drop) {
		return 0, api.ErrPerm
	}
	return m.end([]*held{h}), api.OK
}

// kill is Kill by the words.
func (m *words) kill(env int) int {
	return m.end(m.all(func(h *held) bool { return h.env == env }))
}

// objects is Objects by the words.
func (m *words) objects(env, kind int) []int {
	var l []int
	for _, h := range m.all(func(h *held) bool { return h.env == env && h.kind == kind && h.hasAll(use) }) {
		if !slices.Contains(l, h.obj) {
			l = append(l, h.obj)
		}
	}
	slices.Sort(l)
	return l
}

// pair is a table, and the words that it is held against.
type pair struct {
	t *testing.T
	x *caps.Table
	m *words
}

// pairNew is an empty table and its words.
func pairNew(t *testing.T, slots, quota int) pair {
	t.Helper()
	x := caps.New(slots, quota)
	if x == nil {
		t.Fatalf("New(%d, %d) is nil", slots, quota)
	}
	return pair{t, x, wordsNew(slots, quota)}
}

// same holds an answer with its error against the words' one.
func same[T comparable](t *testing.T, call string, got T, ge api.Errno, want T, we api.Errno) {
	t.Helper()
	if got != want || ge != we {
		t.Fatalf("%s = %v, %v, want %v, %v", call, got, ge, want, we)
	}
}

func (p pair) mint(env, kind, obj, rights int) api.Cap {
	p.t.Helper()
	got, ge := p.x.Mint(env, kind, obj, rights)
	want, we := p.m.mint(env, kind, obj, rights)
	same(p.t, fmt.Sprint("Mint", env, kind, obj, rights), got, ge, want, we)
	return got
}

func (p pair) share(env int, c api.Cap, to, rights int) api.Cap {
	p.t.Helper()
	got, ge := p.x.Share(env, c, to, rights)
	want, we := p.m.share(env, c, to, rights)
	same(p.t, fmt.Sprint("Share", env, c, to, rights), got, ge, want, we)
	return got
}

func (p pair) check(env int, c api.Cap, kind, rights int) {
	p.t.Helper()
	got, ge := p.x.Check(env, c, kind, rights)
	want, we := p.m.check(env, c, kind, rights)
	same(p.t, fmt.Sprint("Check", env, c, kind, rights), got, ge, want, we)
}

func (p pair) revoke(env int, c api.Cap) {
	p.t.Helper()
	got, ge := p.x.Revoke(env, c)
	want, we := p.m.revoke(env, c)
	same(p.t, fmt.Sprint("Revoke", env, c), got, ge, want, we)
}

func (p pair) drop(env int, c api.Cap) {
	p.t.Helper()
	got, ge := p.x.Drop(env, c)
	want, we := p.m.drop(env, c)
	same(p.t, fmt.Sprint("Drop", env, c), got, ge, want, we)
}

func (p pair) kill(env int) {
	p.t.Helper()
	same(p.t, fmt.Sprint("Kill", env), p.x.Kill(env), api.OK, p.m.kill(env), api.OK)
}

// tells holds what env is told of itself against the words.
func (p pair) tells(env int) {
	p.t.Helper()
	same(p.t, fmt.Sprint("Count", env), p.x.Count(env), api.OK, p.m.count(env), api.OK)
	for kind := -1; kind <= 4; kind++ {
		if got, want := p.x.Objects(env, kind), p.m.objects(env, kind); !slices.Equal(got, want) {
			p.t.Fatalf("Objects(%d, %d) = %v, want %v", env, kind, got, want)
		}
	}
}

// whole holds all that can be asked of small slots and environments against the words.
func (p pair) whole() {
	p.t.Helper()
	for env := -1; env <= 4; env++ {
		p.tells(env)
	}
	for slot := -1; slot <= p.m.slots; slot++ {
		for gen := -1; gen <= p.m.went[slot]+2; gen++ {
			c := api.Cap{Slot: slot, Gen: gen}
			env, kind := 0, 1
			if h := p.m.find(c); h != nil {
				env, kind = h.env, h.kind
			}
			for rights := range 9 {
				p.check(env, c, kind, rights)
			}
			p.check(env+1, c, kind, 0)
			p.check(env, c, kind%3+1, 0)
		}
	}
}

// P11.1: New, its arguments at all bounds; a new table is empty.
func TestNew(t *testing.T) {
	for _, slots := range bounds() {
		for _, quota := range bounds() {
			x := caps.New(slots, quota)
			if (x != nil) != (slots >= 1 && slots <= most && quota >= 1) {
				t.Fatalf("New(%d, %d) = %v", slots, quota, x)
			}
			if x == nil {
				continue
			}
			if x.Count(0) != 0 || len(x.Objects(0, api.OfWindow)) != 0 || x.Kill(0) != 0 {
				t.Fatalf("New(%d, %d) has capabilities", slots, quota)
			}
			if _, e := x.Check(0, api.Cap{Gen: 1}, 0, 0); e != api.ErrStale {
				t.Fatalf("of an empty table's slot Check answers %v", e)
			}
		}
	}
}

// P11.2, P11.3: the chapter's example: the first is revoked, so the second's name is stale.
func TestExample(t *testing.T) {
	p := pairNew(t, 8, 8)
	a := p.mint(1, api.OfRing, 5, full)
	b := p.share(1, a, 2, use)
	p.revoke(1, a)
	if _, e := p.x.Check(2, b, api.OfRing, use); e != api.ErrStale {
		t.Errorf("the second: %v", e)
	}
	if obj, e := p.x.Check(1, a, api.OfRing, full); obj != 5 || e != api.OK {
		t.Errorf("the first: %d, %v", obj, e)
	}
	p.whole()
}

// P11.1: Mint, each argument at all bounds, the others right and wrong.
func TestMintArguments(t *testing.T) {
	for _, one := range bounds() {
		for _, other := range []int{-1, 0, 1, 3, 7, 8} {
			for place := range 4 {
				l := [4]int{other, other, other, other}
				l[place] = one
				p := pairNew(t, 2, 1)
				p.mint(l[0], l[1], l[2], l[3])
				p.whole()
				right := [4]int{1, 2, 3, 4}
				right[place] = one
				p.mint(right[0], right[1], right[2], right[3])
				p.whole()
			}
		}
	}
}

// P11.1, R2: Mint's errors stand in their order: ErrArg, ErrLimit, ErrFull.
func TestMintOrder(t *testing.T) {
	p := pairNew(t, 2, 2)
	p.mint(1, 1, 0, 7)
	p.mint(1, 1, 0, 7)
	for _, c := range []struct {
		env, kind, obj, rights int
		want                   api.Errno
	}{{1, 1, 0, 7, api.ErrLimit}, {2, 1, 0, 7, api.ErrFull}, {-1, 1, 0, 7, api.ErrArg}, {1, 0, 0, 7, api.ErrArg}, {1, 4, 0, 7, api.ErrArg}, {1, 1, -1, 7, api.ErrArg}, {1, 1, 0, 0, api.ErrArg}, {1, 1, 0, 8, api.ErrArg}} {
		if got, e := p.x.Mint(c.env, c.kind, c.obj, c.rights); got != none || e != c.want {
			t.Errorf("Mint(%d, %d, %d, %d) = %v, %v, want %v", c.env, c.kind, c.obj, c.rights, got, e, c.want)
		}
	}
	p.whole()
}

// P11.1, P11.3: the first free slot is taken, with its generation, one more each time that it was free.
func TestFirstFree(t *testing.T) {
	p := pairNew(t, 4, 4)
	var l []api.Cap
	for i := range 4 {
		l = append(l, p.mint(0, 1, i, 7))
	}
	for round := range 5 {
		p.drop(0, l[2])
		p.drop(0, l[1])
		first, second := p.mint(0, 2, 9, 7), p.mint(0, 3, 9, 7)
		if first != (api.Cap{Slot: 1, Gen: round + 2}) || second != (api.Cap{Slot: 2, Gen: round + 2}) {
			t.Fatalf("in round %d the names are %v, %v", round, first, second)
		}
		l[1], l[2] = first, second
		p.whole()
	}
}

// P11.1: the quota is an environment's own, of whatever kind, made of whatever; the greatest leaves all slots.
func TestQuota(t *testing.T) {
	for _, quota := range []int{1, 2, 3, math.MaxInt} {
		p := pairNew(t, 5, quota)
		a := p.mint(1, 1, 0, 7)
		for i := range 6 {
			p.mint(1, i%3+1, i, 7)
			p.share(1, a, 1, 1)
			p.share(1, a, 2, 7)
			p.whole()
		}
		p.drop(1, a)
		p.mint(1, 1, 0, 7)
		p.whole()
	}
}

// P11.2, R2: Share's errors stand in their order, each ahead of all that come behind it.
func TestShareOrder(t *testing.T) {
	p := pairNew(t, 4, 2)
	a := p.mint(1, 1, 0, give|use)
	no := p.mint(1, 1, 0, use|drop)
	p.mint(2, 1, 0, 7)
	p.mint(2, 1, 0, 7)
	stale := api.Cap{Slot: a.Slot, Gen: a.Gen + 1}
	for _, c := range []struct {
		env    int
		c      api.Cap
		to     int
		rights int
		want   api.Errno
	}{
		{3, stale, -1, 0, api.ErrStale}, {1, api.Cap{Slot: 4, Gen: 1}, -1, 0, api.ErrStale},
		{3, a, -1, 0, api.ErrPerm}, {1, no, -1, 0, api.ErrPerm}, {-1, a, 0, 1, api.ErrPerm},
		{1, a, -1, drop, api.ErrArg}, {1, a, 2, 0, api.ErrArg}, {1, a, 2, 8, api.ErrArg}, {1, a, 2, -1, api.ErrArg},
		{1, a, 2, drop, api.ErrPerm}, {1, a, 2, full, api.ErrPerm},
		{1, a, 2, use, api.ErrLimit}, {1, a, 3, use, api.ErrFull},
	} {
		if got, e := p.x.Share(c.env, c.c, c.to, c.rights); got != none || e != c.want {
			t.Errorf("Share(%d, %v, %d, %d) = %v, %v, want %v", c.env, c.c, c.to, c.rights, got, e, c.want)
		}
	}
	p.whole()
}

// P11.2, R2: Check's errors stand in their order.
func TestCheckOrder(t *testing.T) {
	p := pairNew(t, 4, 2)
	a := p.mint(1, 2, 9, use)
	for _, c := range []struct {
		env          int
		c            api.Cap
		kind, rights int
		obj          int
		want         api.Errno
	}{
		{3, api.Cap{Slot: 0, Gen: 2}, 1, 2, 0, api.ErrStale}, {3, a, 1, 2, 0, api.ErrPerm}, {1, a, 1, 2, 0, api.ErrKind},
		{1, a, 2, give, 0, api.ErrPerm}, {1, a, 2, use | give, 0, api.ErrPerm}, {1, a, 2, use, 9, api.OK}, {1, a, 2, 0, 9, api.OK},
		{1, a, 2, -1, 0, api.ErrPerm}, {1, a, 2, 8, 0, api.ErrPerm}, {1, a, 2, math.MinInt, 0, api.ErrPerm}, {1, a, 0, 1, 0, api.ErrKind},
	} {
		if obj, e := p.x.Check(c.env, c.c, c.kind, c.rights); obj != c.obj || e != c.want {
			t.Errorf("Check(%d, %v, %d, %d) = %d, %v, want %d, %v", c.env, c.c, c.kind, c.rights, obj, e, c.obj, c.want)
		}
	}
}

// P11.2: Check and Share, each right of a capability against each that is asked.
func TestRights(t *testing.T) {
	for has := 1; has <= 7; has++ {
		for _, asked := range append(bounds(), 1<<3, 1<<62, ^7) {
			p := pairNew(t, 3, 9)
			a := p.mint(1, 3, 4, has)
			p.check(1, a, 3, asked)
			b := p.share(1, a, 2, asked)
			p.check(2, b, 3, asked)
			p.drop(2, b)
			p.drop(1, a)
			p.whole()
		}
	}
}

// P11.2, P11.3: names at all bounds, in each call that takes one.
func TestNames(t *testing.T) {
	for _, slot := range bounds() {
		for _, gen := range bounds() {
			p := pairNew(t, 4, 9)
			for i := range 3 {
				p.mint(i, i+1, 10+i, full)
			}
			p.kill(1)
			p.mint(1, 3, 20, full)
			c := api.Cap{Slot: slot, Gen: gen}
			p.check(1, c, 3, 0)
			p.share(1, c, 2, 1)
			p.revoke(1, c)
			p.drop(1, c)
			p.check(1, c, 3, 0)
			p.whole()
		}
	}
}

// family makes a tree: a, of it b and c, of b d and e, of e f; and another one, g, and of it h.
func family(p pair) (l [8]api.Cap) {
	l[0] = p.mint(0, 1, 7, full)
	l[1] = p.share(0, l[0], 1, full)
	l[2] = p.share(0, l[0], 0, full)
	l[3] = p.share(1, l[1], 2, full)
	l[4] = p.share(1, l[1], 0, full)
	l[5] = p.share(0, l[4], 1, full)
	l[6] = p.mint(2, 2, 7, full)
	l[7] = p.share(2, l[6], 1, full)
	return l
}

// P11.3: Revoke and Drop of each one of a family, Kill of each environment, and how many go.
func TestFamily(t *testing.T) {
	envs := [8]int{0, 1, 0, 2, 0, 1, 2, 1}
	below := [8]int{5, 3, 0, 0, 1, 0, 1, 0}
	for i := range envs {
		p := pairNew(t, 9, 9)
		l := family(p)
		if n, e := p.x.Revoke(envs[i]+1, l[i]); n != 0 || e != api.ErrPerm {
			t.Errorf("Revoke by another one = %d, %v", n, e)
		}
		if n, e := p.x.Revoke(envs[i], l[i]); n != below[i] || e != api.OK {
			t.Errorf("Revoke of %d = %d, %v", i, n, e)
		}
		p = pairNew(t, 9, 9)
		l = family(p)
		if n, e := p.x.Drop(envs[i]+1, l[i]); n != 0 || e != api.ErrPerm {
			t.Errorf("Drop by another one = %d, %v", n, e)
		}
		if n, e := p.x.Drop(envs[i], l[i]); n != below[i]+1 || e != api.OK {
			t.Errorf("Drop of %d = %d, %v", i, n, e)
		}
	}
	for env, want := range map[int]int{-1: 0, 0: 6, 1: 5, 2: 3, 3: 0} {
		p := pairNew(t, 9, 9)
		family(p)
		if n := p.x.Kill(env); n != want || p.x.Count(env) != 0 {
			t.Errorf("Kill(%d) = %d, want %d", env, n, want)
		}
	}
}

// P11.3: what goes is held against the words slot by slot, the generations too; nothing else goes.
func TestFamilyGoes(t *testing.T) {
	envs := [8]int{0, 1, 0, 2, 0, 1, 2, 1}
	for i := range envs {
		for call := range 3 {
			p := pairNew(t, 9, 9)
			l := family(p)
			switch call {
			case 0:
				p.revoke(envs[i], l[i])
			case 1:
				p.drop(envs[i], l[i])
			default:
				p.kill(i)
			}
			p.whole()
			for n := range 9 {
				p.mint(n%3, 3, n, full)
			}
			p.whole()
		}
	}
}

// P11.3: Drop asks for MayDrop; Revoke asks for no right; Drop's and Revoke's ErrStale is ahead of ErrPerm.
func TestNoDrop(t *testing.T) {
	p := pairNew(t, 4, 4)
	a := p.mint(1, 1, 0, use|give)
	p.share(1, a, 2, use)
	if n, e := p.x.Drop(1, a); n != 0 || e != api.ErrPerm {
		t.Errorf("Drop = %d, %v", n, e)
	}
	p.whole()
	if n, e := p.x.Drop(2, api.Cap{Slot: 0, Gen: 3}); n != 0 || e != api.ErrStale {
		t.Errorf("Drop of a stale one = %d, %v", n, e)
	}
	if n, e := p.x.Revoke(2, api.Cap{Slot: 0, Gen: 3}); n != 0 || e != api.ErrStale {
		t.Errorf("Revoke of a stale one = %d, %v", n, e)
	}
	p.revoke(1, a)
	p.revoke(1, a)
	p.whole()
	b := p.mint(3, 1, 0, use)
	p.revoke(3, b)
	p.whole()
}

// P11.3: one that stands behind others in the slots, but above them: what is made later may stand in an earlier slot.
func TestEarlierSlot(t *testing.T) {
	p := pairNew(t, 4, 9)
	a := p.mint(0, 1, 0, full)
	b := p.mint(1, 1, 1, full)
	p.drop(0, a)
	c := p.share(1, b, 2, full) // in a's slot
	d := p.share(2, c, 3, full)
	if c.Slot > b.Slot || d.Slot < b.Slot {
		t.Fatal(b, c, d)
	}
	p.revoke(2, c)
	p.whole()
	p.share(2, c, 3, full)
	p.drop(1, b)
	p.whole()
	p.mint(2, 1, 1, full)
	p.whole()
}

// P11.3: Objects tells numbers rising, each once, just of that kind, and just with MayUse.
func TestObjects(t *testing.T) {
	p := pairNew(t, 60, 60)
	for i, obj := range []int{9, 3, math.MaxInt, 0, 3, 9, 1, 0, 5, 5, 4} {
		p.mint(1, i%3+1, obj, i%7+1)
		p.mint(1, 1, obj, full)
		p.mint(2, 2, obj, use)
		p.mint(1, 3, obj+1&math.MaxInt, give|drop)
		p.tells(1)
		p.tells(2)
	}
	if got := p.x.Objects(1, 1); !slices.Equal(got, []int{0, 1, 3, 4, 5, 9, math.MaxInt}) {
		t.Errorf("Objects(1, 1) = %v", got)
	}
	for _, n := range bounds() {
		if got, want := p.x.Objects(n, 1), p.m.objects(n, 1); !slices.Equal(got, want) {
			t.Errorf("Objects(%d, 1) = %v, want %v", n, got, want)
		}
		if got, want := p.x.Objects(1, n), p.m.objects(1, n); !slices.Equal(got, want) {
			t.Errorf("Objects(1, %d) = %v, want %v", n, got, want)
		}
		if p.x.Count(n) != p.m.count(n) {
			t.Errorf("Count(%d) = %d", n, p.x.Count(n))
		}
	}
}

// P11.1, P11.3: environments at all bounds have what is theirs.
func TestEnvironments(t *testing.T) {
	for _, env := range bounds() {
		p := pairNew(t, 3, 2)
		a := p.mint(0, 1, 0, full)
		b := p.mint(env, 2, 5, full)
		p.share(0, a, env, full)
		p.check(env, b, 2, full)
		p.tells(env)
		p.kill(env)
		p.tells(env)
		p.whole()
	}
}

// P11.1, P11.3: the greatest table: all slots are taken, in their order, one below the other, and go by one call.
func TestGreatest(t *testing.T) {
	x := caps.New(most, math.MaxInt)
	l := make([]api.Cap, most)
	for round := range 3 {
		for i := range l {
			var e api.Errno
			if i == 0 {
				l[i], e = x.Mint(0, 1, 3, full)
			} else {
				l[i], e = x.Share((i-1)%5, l[i-1], i%5, full)
			}
			if e != api.OK || l[i] != (api.Cap{Slot: i, Gen: round + 1}) {
				t.Fatalf("%d has the name %v, %v", i, l[i], e)
			}
		}
		if _, e := x.Mint(9, 1, 0, 1); e != api.ErrFull {
			t.Fatalf("Mint in a full one: %v", e)
		}
		if _, e := x.Share(0, l[0], 9, 1); e != api.ErrFull {
			t.Fatalf("Share in a full one: %v", e)
		}
		end := []func() (int, api.Errno){
			func() (int, api.Errno) { return x.Drop(0, l[0]) },
			func() (int, api.Errno) { return x.Kill(0), api.OK },
			func() (int, api.Errno) {
				n, e := x.Revoke(0, l[0])
				o, _ := x.Drop(0, l[0])
				return n + o, e
			},
		}[round]
		if n, e := end(); n != most || e != api.OK || x.Count(0) != 0 {
			t.Fatalf("in round %d %d went, %v", round, n, e)
		}
	}
}

// P11.4: along each row of shares no right grows, whatever is asked; each that is below has its kind and number.
func TestNoRightGrows(t *testing.T) {
	for first := 1; first <= 7; first++ {
		for second := -1; second <= 9; second++ {
			for third := -1; third <= 9; third++ {
				p := pairNew(t, 3, 3)
				a := p.mint(0, 2, 8, first)
				b := p.share(0, a, 1, second)
				c := p.share(1, b, 2, third)
				for rights := range 8 {
					_, ae := p.x.Check(0, a, 2, rights)
					_, be := p.x.Check(1, b, 2, rights)
					_, ce := p.x.Check(2, c, 2, rights)
					if be == api.OK && ae != api.OK || ce == api.OK && be != api.OK {
						t.Fatalf("of %d, %d, %d: %d is %v, %v, %v", first, second, third, rights, ae, be, ce)
					}
				}
				p.whole()
			}
		}
	}
}

// P11.4: a name that went stale stays so, in each call, whatever is made in its slot; Revoke, Drop and Kill make it so alike.
func TestStaleStays(t *testing.T) {
	c := rand.New(rand.NewPCG(11, 1))
	for range 40 {
		p := pairNew(t, 3, 9)
		var lost, have []api.Cap
		for range 60 {
			name := p.mint(c.IntN(2), 1, 0, full)
			if name != none {
				have = append(have, name)
			}
			one := have[c.IntN(len(have))]
			switch c.IntN(4) {
			case 0:
				if name := p.share(0, one, 1, full); name != none {
					have = append(have, name)
				}
			case 1:
				p.revoke(c.IntN(2), one)
			case 2:
				p.drop(c.IntN(2), one)
			default:
				if c.IntN(3) == 0 {
					p.kill(c.IntN(2))
				}
			}
			for _, name := range have {
				if p.m.find(name) == nil {
					lost = append(lost, name)
				}
			}
			have = slices.DeleteFunc(have, func(name api.Cap) bool { return slices.Contains(lost, name) })
			if len(have) == 0 {
				have = []api.Cap{none}
			}
			for _, name := range lost {
				for env := range 2 {
					_, a := p.x.Check(env, name, 1, 0)
					_, b := p.x.Share(env, name, 0, 1)
					_, d := p.x.Drop(env, name)
					_, r := p.x.Revoke(env, name)
					if a != api.ErrStale || b != api.ErrStale || d != api.ErrStale || r != api.ErrStale {
						t.Fatalf("%v is named again: %v, %v, %v, %v", name, a, b, d, r)
					}
				}
			}
		}
		p.whole()
	}
}

// step makes one of the small calls that TestEach goes through.
func (p pair) step(call int) {
	p.t.Helper()
	name := func(slot int) api.Cap { return api.Cap{Slot: slot, Gen: max(p.m.went[slot]+1, 1)} }
	switch call {
	case 0, 1:
		p.mint(call, 1, call, full)
	case 2, 3:
		p.share(0, name(call-2), 1, full)
	case 4, 5:
		p.share(1, name(call-4), 0, use|give)
	case 6, 7:
		p.revoke(call-6, name(call-6))
	case 8, 9:
		p.drop(call-8, name(call-8))
	case 10, 11:
		p.kill(call - 10)
	}
}

// P11.1 to P11.3: all rows of four calls on a table of three slots.
func TestEach(t *testing.T) {
	const kinds, calls = 12, 4
	all := 1
	for range calls {
		all *= kinds
	}
	for n := range all {
		p := pairNew(t, 3, 2)
		for k, left := n, calls; left > 0; k, left = k/kinds, left-1 {
			p.step(k % kinds)
		}
		for env := range 2 {
			p.tells(env)
		}
		if n%7 == 0 {
			p.whole()
		}
	}
}

// P11.1 to P11.4: tables of any size, by any calls, each by itself.
func TestAny(t *testing.T) {
	c := rand.New(rand.NewPCG(11, 2))
	l := bounds()
	number := func(n int) int {
		if c.IntN(24) == 0 {
			return l[c.IntN(len(l))]
		}
		return c.IntN(n)
	}
	for range 200 {
		ps := []pair{pairNew(t, 1+c.IntN(9), 1+c.IntN(6)), pairNew(t, 1+c.IntN(9), 1+c.IntN(6))}
		for range 80 {
			p := ps[c.IntN(2)]
			slot := number(p.m.slots)
			name := api.Cap{Slot: slot, Gen: p.m.went[slot] + 1}
			if c.IntN(12) == 0 {
				name.Gen = number(6)
			}
			env := number(3)
			if h := p.m.find(name); h != nil && c.IntN(8) > 0 {
				env = h.env
			}
			switch c.IntN(12) {
			case 0, 1, 2:
				p.mint(number(3), 1+number(3), number(4), 1+number(7))
			case 3, 4, 5, 6:
				p.share(env, name, number(3), 1+number(7))
			case 7:
				p.check(env, name, number(4), number(9))
			case 8:
				p.revoke(env, name)
			case 9:
				p.drop(env, name)
			case 10:
				p.kill(number(20))
			default:
				p.tells(env)
			}
		}
		for _, p := range ps {
			p.whole()
		}
	}
}

// R4: numbers that are answered may be written over and appended to, and are not changed by what is made later.
func TestMemory(t *testing.T) {
	p := pairNew(t, 40, 40)
	for i := range 9 {
		p.mint(1, 1, 9-i/2, full)
		l := p.x.Objects(1, 1)
		was := slices.Clone(l)
		p.mint(1, 1, i, full)
		if !slices.Equal(l, was) {
			t.Fatalf("what was answered is changed: %v, want %v", l, was)
		}
		clear(l[:cap(l)])
		_ = append(l, 77, 78)
		p.whole()
	}
}

// R6: the same calls on the same state have the same answers, whatever was asked between.
func TestOneAnswer(t *testing.T) {
	c := rand.New(rand.NewPCG(11, 3))
	for range 100 {
		p, o := pairNew(t, 6, 4), pairNew(t, 6, 4)
		for range 40 {
			call := c.IntN(12)
			p.step(call)
			o.x.Check(c.IntN(3), api.Cap{Slot: c.IntN(6), Gen: 1 + c.IntN(4)}, 1, 1)
			o.x.Objects(c.IntN(3), 1)
			o.x.Count(c.IntN(3))
			o.step(call)
			if !slices.Equal(p.x.Objects(1, 1), o.x.Objects(1, 1)) {
				t.Fatal("Objects has two answers")
			}
		}
		p.whole()
		o.whole()
	}
}

// P1: no call panics, of what New answers that is no table, either; such a one has no slot.
func TestNoTable(t *testing.T) {
	for _, x := range []*caps.Table{caps.New(0, 1), caps.New(most+1, 1), caps.New(1, 0)} {
		c := api.Cap{Gen: 1}
		_, me := x.Mint(0, 1, 0, 1)
		_, ae := x.Mint(0, 0, 0, 1)
		_, se := x.Share(0, c, 0, 1)
		_, ce := x.Check(0, c, 1, 1)
		_, re := x.Revoke(0, c)
		_, de := x.Drop(0, c)
		got := []api.Errno{me, ae, se, ce, re, de}
		if want := []api.Errno{api.ErrFull, api.ErrArg, api.ErrStale, api.ErrStale, api.ErrStale, api.ErrStale}; !slices.Equal(got, want) {
			t.Errorf("the errors are %v, want %v", got, want)
		}
		if x.Kill(0) != 0 || x.Count(0) != 0 || len(x.Objects(0, 1)) != 0 {
			t.Error("there are capabilities in none")
		}
	}
}

// P1, R1: every call ends and none panics, at any argument.
func FuzzAll(f *testing.F) {
	f.Add(4, 3, 0, 1, 0, 7, 0, 1, []byte{0, 1, 2, 255, 9, 30, 31, 32, 77})
	f.Add(1, 1, -1, 4, -1, 8, -1, 0, []byte{0, 12, 24, 36, 40})
	f.Add(4097, 0, math.MinInt, math.MaxInt, math.MinInt, math.MinInt, math.MaxInt, math.MinInt, []byte{})
	f.Fuzz(func(t *testing.T, slots, quota, env, kind, obj, rights, slot, gen int, calls []byte) {
		if x := caps.New(slots, quota); (x != nil) != (slots >= 1 && slots <= most && quota >= 1) {
			t.Fatalf("New(%d, %d) = %v", slots, quota, x)
		}
		small := func(n int) int { return int(uint(n)%7) + 1 }
		p := pairNew(t, small(slots), small(quota))
		c := api.Cap{Slot: slot, Gen: gen}
		p.mint(env, kind, obj, rights)
		for _, b := range calls {
			p.step(int(b) % 12)
			if b > 200 {
				p.share(env, c, obj, rights)
				p.check(env, c, kind, rights)
				p.tells(env)
			}
		}
		p.revoke(env, c)
		p.drop(env, c)
		p.kill(env)
		p.whole()
	})
}

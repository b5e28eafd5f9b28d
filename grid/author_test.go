package grid_test

import (
	"math"
	"math/rand"
	"testing"

	"warpwright/api"
	"warpwright/code"
	"warpwright/item"
	"warpwright/launch"
)

func reg(n int) api.Opd   { return api.Opd{Kind: api.OReg, N: n} }
func num(v int32) api.Opd { return api.Opd{Kind: api.OConst, V: v} }

// Who executes a part of a code equally often.
const (
	oneItem = iota
	subgroup
	group
)

// data is the number of registers with any values; the others are for conditions and loops.
const data = 5

// author writes codes whose items mostly meet at their barriers, and subgroups at their operations, although not all of them do the same.
type author struct {
	*rand.Rand
	c        api.Code
	at       int // the current block
	left     int // how many statements may still be written
	readOnly bool
}

func anyCode(r *rand.Rand) api.Code {
	return newAuthor(r).write()
}

func newAuthor(r *rand.Rand) *author {
	c := api.Code{Sub: 1 << r.Intn(4), Regs: data, Slots: r.Intn(3), Params: r.Intn(3)}
	c.Group = c.Sub * (1 + r.Intn(4))
	for range r.Intn(6) {
		c.Arrays = append(c.Arrays, api.Array{Name: "a", Space: api.Global + r.Intn(3), Type: api.TInt + r.Intn(3), Len: 1 << r.Intn(4)})
	}
	return &author{Rand: r, c: c, left: 4 + r.Intn(20)}
}

func (w *author) write() api.Code {
	w.at = w.block()
	for n := range 3 {
		w.emit(api.Inst{Op: api.IId, Sub: pick(w.Rand, api.IdItem, api.IdLocal, api.IdLane), D: reg(n)})
	}
	for w.left > 0 {
		w.statement(group, 3)
	}
	w.end(api.Term{Kind: api.TExit})
	return w.c
}

func (w *author) block() int {
	w.c.B = append(w.c.B, api.Block{})
	return len(w.c.B) - 1
}

func (w *author) reg() api.Opd {
	w.c.Regs++
	return reg(w.c.Regs - 1)
}

func (w *author) emit(i api.Inst) {
	w.c.B[w.at].I = append(w.c.B[w.at].I, i)
}

func (w *author) end(t api.Term) {
	w.c.B[w.at].T = t
}

// to ends the current block with a jump to another one, which is current then.
func (w *author) to(b int) {
	w.end(api.Term{Kind: api.TJump, To: [2]int{b}})
	w.at = b
}

func (w *author) list(who, depth int) {
	for w.left > 0 && w.Intn(4) > 0 {
		w.statement(who, depth)
	}
}

// meet reports whether there may be something for which all have to come together: seldom also where they do not.
func (w *author) meet(all bool) bool {
	return all || w.Intn(6) == 0
}

func (w *author) statement(who, depth int) {
	w.left--
	switch k := w.Intn(16); {
	case k < 3 && depth > 0:
		w.fork(who, depth-1)
	case k < 5 && depth > 0:
		w.loop(who, depth-1)
	case k < 7 && w.meet(who == group):
		w.wait(api.Term{Kind: api.TBarrier})
	case k < 10 && w.meet(who >= subgroup):
		w.wait(api.Term{Kind: api.TCollect, Sub: api.SBallot + w.Intn(6), D: reg(w.Intn(data)), A: w.value(), B: w.value()})
	case k == 10 && w.Intn(6) == 0 && w.meet(who == group):
		w.end(api.Term{Kind: api.TExit})
		w.at = w.block()
	default:
		w.instruction()
	}
}

func (w *author) wait(t api.Term) {
	b := w.block()
	t.To[0] = b
	w.end(t)
	w.at = b
}

// condition makes a number from 0 to 3 that is the same for all who go the same way.
func (w *author) condition(who int) api.Opd {
	c := w.reg()
	i := api.Inst{Op: api.IId, Sub: pick(w.Rand, api.IdGroup, api.IdItems, api.IdSize), D: c}
	switch {
	case who == subgroup:
		i.Sub = api.IdSub
	case who == oneItem && w.Intn(2) == 0:
		i.Sub = pick(w.Rand, api.IdItem, api.IdLocal, api.IdLane)
	case who == oneItem:
		i = api.Inst{Op: api.IMov, D: c, A: reg(w.Intn(data))}
	case w.c.Params > 0 && w.Intn(2) == 0:
		i = api.Inst{Op: api.IParam, N: w.Intn(w.c.Params), D: c}
	}
	w.emit(i)
	w.emit(api.Inst{Op: api.IBin, Sub: api.BAnd, D: c, A: c, B: num(int32(pick(w.Rand, 1, 2, 3)))})
	return c
}

// fork and loop create blocks in an order in which only the ends of loops lead back.
func (w *author) fork(who, depth int) {
	who = w.Intn(who + 1)
	t := api.Term{Kind: api.TBranch, A: w.condition(who)}
	from, ends := w.at, [2]int{}
	for i := range t.To {
		t.To[i] = w.block()
		w.at = t.To[i]
		w.list(who, depth)
		ends[i] = w.at
	}
	w.c.B[from].T = t
	join := w.block()
	for _, b := range ends {
		w.at = b
		w.to(join)
	}
}

func (w *author) loop(who, depth int) {
	who = w.Intn(who + 1)
	most, n, c := w.condition(who), w.reg(), w.reg()
	w.emit(api.Inst{Op: api.IMov, D: n, A: num(0)})
	head := w.block()
	w.to(head)
	w.emit(api.Inst{Op: api.IBin, Sub: api.BLt, D: c, A: n, B: most})
	w.at = w.block()
	w.emit(api.Inst{Op: api.IBin, Sub: api.BAdd, D: n, A: n, B: num(1)})
	w.list(who, depth)
	w.to(head)
	w.at = w.block()
	w.c.B[head].T = api.Term{Kind: api.TBranch, A: c, To: [2]int{head + 1, w.at}}
}

func anyWord(r *rand.Rand) int32 {
	return pick(r, 0, 1, 2, 3, -1, math.MinInt32, math.MaxInt32, int32(r.Uint32()), int32(r.Uint32())>>r.Intn(32))
}

func (w *author) value() api.Opd {
	if w.Intn(5) == 0 {
		return num(anyWord(w.Rand))
	}
	return reg(w.Intn(data))
}

func (w *author) instruction() {
	d := reg(w.Intn(data))
	switch w.Intn(12) {
	case 0:
		w.emit(api.Inst{Op: api.IMov, D: d, A: w.value()})
	case 1:
		w.emit(api.Inst{Op: api.IBin, Sub: api.BAdd + w.Intn(20), D: d, A: w.value(), B: w.value()})
	case 2:
		w.emit(api.Inst{Op: api.ISel, D: d, A: w.value(), B: w.value(), C: w.value()})
	case 3, 4:
		w.emit(api.Inst{Op: api.IId, Sub: api.IdItem + w.Intn(7), D: d})
	case 5:
		w.emit(api.Inst{Op: api.IFence, Sub: api.FenceGroup + w.Intn(2)})
	case 6:
		if w.c.Slots > 0 {
			w.emit(api.Inst{Op: api.IPut, N: w.Intn(w.c.Slots), A: w.value()})
			w.emit(api.Inst{Op: api.IGet, N: w.Intn(w.c.Slots), D: d})
		}
	default:
		w.access(d)
	}
}

// access writes an access to an array, mostly one to a word that is there.
func (w *author) access(d api.Opd) {
	if len(w.c.Arrays) == 0 {
		return
	}
	n := w.Intn(len(w.c.Arrays))
	a := w.c.Arrays[n]
	i := api.Inst{Op: api.IStore + w.Intn(2), N: n, A: reg(w.Intn(data)), B: w.value()}
	if w.Intn(3) == 0 || w.readOnly && a.Space == api.Global {
		i = api.Inst{Op: api.ILoad, N: n, D: d, A: i.A}
	} else if a.Space == api.Private {
		i.Op = api.IStore
	}
	if i.Op == api.IAtom {
		i.Sub = pick(w.Rand, api.BAdd, api.BMin, api.BMax, api.BAnd, api.BOr, api.BXor)
	}
	if w.Intn(50) == 0 {
		i.A = num(pick(w.Rand, -1, int32(a.Len)))
	} else {
		w.emit(api.Inst{Op: api.IBin, Sub: api.BAnd, D: i.A, A: i.A, B: num(int32(a.Len - 1))})
	}
	w.emit(i)
}

// crossed changes ends of blocks, so that they are others, or lead to other blocks behind them: items need not meet then. Branches still lead where they did, as loops might not end otherwise.
func crossed(r *rand.Rand, c api.Code) api.Code {
	c = clone(c)
	for b := range c.B {
		t := &c.B[b].T
		switch k := r.Intn(3 * len(c.B)); {
		case k < 2:
			*t = api.Term{Kind: api.TExit}
		case k < 6 && t.Kind != api.TExit && t.Kind != api.TBranch && b+1 < len(c.B):
			t.To[0] = b + 1 + r.Intn(len(c.B)-b-1)
		}
	}
	return c
}

func anyLaunch(r *rand.Rand, c api.Code) api.Launch {
	l := api.Launch{Groups: 1 + r.Intn(4)}
	for range c.Params {
		l.Args = append(l.Args, anyWord(r))
	}
	return l
}

func fill(r *rand.Rand, m api.Memory) api.Memory {
	m = clone(m)
	for _, words := range m {
		for i := range words {
			words[i] = anyWord(r)
		}
	}
	return m
}

func anyMemory(r *rand.Rand, c api.Code) api.Memory {
	return fill(r, launch.Zero(c.Arrays, api.Global))
}

// scattered is a state that can be that of an image: each item has gone on alone for some blocks, and all words of it and the shared arrays have any values at first.
func scattered(r *rand.Rand, c api.Code, l api.Launch, s state) state {
	s = clone(s)
	s.G.Shared = fill(r, s.G.Shared)
	for n := range s.G.Items {
		it := &s.G.Items[n]
		lists := append(fill(r, it.Priv), it.Regs[:data], it.Slots)
		lists = fill(r, lists)
		it.Epoch, it.Priv, it.Slots = r.Intn(4), lists[:len(it.Priv)], lists[len(lists)-1]
		copy(it.Regs, lists[len(lists)-2])
		for range r.Intn(4) {
			if next, global, shared, _, e := item.Step(c, l, *it, s.Global, s.G.Shared, 0); e == api.OK {
				*it, s.Global, s.G.Shared = next, global, shared
			}
		}
	}
	return s
}

// happened is what Round has returned.
type happened struct {
	c             api.Code
	l             api.Launch
	before, after state
	events        []api.Event
	e             api.Errno
}

// eachLaunch calls f for n launches.
func eachLaunch(t *testing.T, n int, f func(r *rand.Rand, c api.Code, img api.Image)) {
	t.Helper()
	for seed := range int64(n) {
		r := newRand(seed)
		c := anyCode(r)
		if seed%2 == 1 {
			c = crossed(r, c)
		}
		l := anyLaunch(r, c)
		if e, e2 := code.Check(c), launch.Check(c, l); e != api.OK || e2 != api.OK {
			t.Fatalf("%d, %d for %+v, %+v", e, e2, c, l)
		}
		f(r, c, fresh(l, anyMemory(r, c)))
	}
}

// eachRound calls f for the rounds of the groups of n launches; some groups begin in the middle.
func eachRound(t *testing.T, n int, f func(h happened)) {
	t.Helper()
	eachLaunch(t, n, func(r *rand.Rand, c api.Code, img api.Image) {
		h := happened{c: c, l: img.Launch, after: state{Global: img.Global}}
		for g := range img.Launch.Groups {
			h.after.G = begin(t, c, img.Launch, g)
			if r.Intn(3) == 0 {
				h.after = scattered(r, c, img.Launch, h.after)
			}
			for n := 0; n < 40 && !allExit(h.after.G); n++ {
				h.before = h.after
				h.after, h.events, h.e = round(t, c, img.Launch, h.before)
				f(h)
				if h.e != api.OK {
					break
				}
			}
		}
	})
}

func allExit(g api.Group) bool {
	return everywhere(g, api.AtExit, 0)
}

// TestAuthor checks that what the other tests are based on has all ends and kinds of events, rounds with several turns, and errors among much that has none.
func TestAuthor(t *testing.T) {
	kinds, ends, errors, turns, begun := map[int]int{}, map[int]int{}, map[api.Errno]int{}, map[bool]int{}, map[bool]int{}
	eachRound(t, 800, func(h happened) {
		errors[h.e]++
		begun[everywhere(h.before.G, api.AtBlock, h.before.G.Items[0].Block)]++
		for _, v := range h.events {
			kinds[v.Kind]++
			ends[h.c.B[v.Block].T.Kind]++
			turns[v.Turn > 9]++
		}
	})
	for _, m := range []map[int]int{kinds, ends} {
		for k, n := range m {
			if n < 300 {
				t.Errorf("%d: %v", k, m)
			}
		}
	}
	if len(kinds) != 4 || len(ends) != 5 || turns[true] < 500 || begun[false] < 300 {
		t.Errorf("%v, %v, %v, %v", kinds, ends, turns, begun)
	}
	if errors[api.OK] < 2000 || errors[api.ErrIndex] < 30 || errors[api.ErrSync] < 100 || errors[api.ErrBig] > 0 {
		t.Errorf("errors: %v", errors)
	}
}

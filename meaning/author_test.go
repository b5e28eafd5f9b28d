package meaning_test

import (
	"fmt"
	"math"
	"math/rand"
	"strings"
	"testing"

	"warpwright/api"
	"warpwright/meaning"
	"warpwright/scalar"
	"warpwright/types"
)

func anyWord(r *rand.Rand) int32 {
	return pick(r, 0, 0, 1, 2, 3, -1, math.MinInt32, math.MaxInt32, int32(r.Uint32()), int32(r.Uint32())>>r.Intn(32))
}

// author writes texts of kernels that types accepts, have the head of the samples, and mostly stay in their arrays. Each variable has a name of its own.
type author struct {
	*rand.Rand
	arrays []api.Array
	vars   []api.Param // parameters and variables that are visible
	params int         // how many of the first ones are parameters
	funcs  []fun
	inFunc bool
	loops  int
	left   int // how many statements may still be written
	names  int // how many were given
}

// fun is a function, in parts.
type fun struct {
	name      string
	params    []api.Param
	typ       int
	body, ret string
}

func newAuthor(t *testing.T, seed int64) *author {
	return &author{Rand: newRand(seed), arrays: parse(t, head+"{ }").Arrays}
}

// kernel writes a kernel.
func (w *author) kernel() string {
	for range w.Intn(4) {
		w.fun()
	}
	return w.text(w.body())
}

// text is that of a kernel with the functions that are written, and this body.
func (w *author) text(body string) string {
	text := head
	for _, f := range w.funcs {
		text += f.String()
	}
	return text + "{\n" + body + "}\n"
}

func (w *author) body() string {
	w.vars, w.params = []api.Param{{Name: "n", Type: api.TInt}, {Name: "m", Type: api.TFix}, {Name: "l", Type: api.TBool}}, 3
	w.left = 3 + w.Intn(20)
	return w.all(3)
}

func (w *author) name() string {
	w.names++
	return fmt.Sprint("v", w.names)
}

func nameOf(typ int) string {
	return [...]string{api.TInt: "int", api.TFix: "fix", api.TBool: "bool"}[typ]
}

func (w *author) anyType() int {
	return 1 + w.Intn(3)
}

func (w *author) fun() fun {
	f := fun{name: w.name(), typ: w.anyType()}
	for range w.Intn(4) {
		f.params = append(f.params, api.Param{Name: w.name(), Type: w.anyType()})
	}
	w.vars, w.params, w.left, w.inFunc = f.params[:len(f.params):len(f.params)], len(f.params), w.Intn(6), true
	f.body = w.all(2)
	f.ret = w.expr(f.typ, 2)
	w.inFunc = false
	w.funcs = append(w.funcs, f)
	return f
}

func (f fun) String() string {
	var params []string
	for _, p := range f.params {
		params = append(params, p.Name+" "+nameOf(p.Type))
	}
	return fmt.Sprintf("func %s(%s) %s {\n%sreturn %s\n}\n", f.name, strings.Join(params, ", "), nameOf(f.typ), f.body, f.ret)
}

// all writes as many statements as are left, in which others nest up to depth.
func (w *author) all(depth int) string {
	text := ""
	for w.left > 0 {
		text += w.stmt(depth)
	}
	return text
}

// list writes a list of statements in braces.
func (w *author) list(depth int) string {
	text, outer := "{\n", len(w.vars)
	for w.left > 0 && w.Intn(5) > 0 {
		text += w.stmt(depth)
	}
	w.vars = w.vars[:outer:outer]
	return text + "}"
}

func (w *author) stmt(depth int) string {
	w.left--
	for {
		text := ""
		switch k := w.Intn(4); {
		case k == 0 && depth > 0:
			text = w.nested(depth - 1)
		case k > 1 && !w.inFunc:
			text = w.effect()
		default:
			text = w.plain()
		}
		if text != "" {
			return text + "\n"
		}
	}
}

func (w *author) plain() string {
	switch w.Intn(8) {
	case 0:
		if w.loops > 0 {
			return pick(w.Rand, "break", "continue")
		}
	case 1, 2, 3:
		if v, ok := w.variable(); ok {
			return v.Name + " = " + w.expr(v.Type, 2)
		}
	}
	v := api.Param{Name: w.name(), Type: w.anyType()}
	text := fmt.Sprintf("var %s %s = %s", v.Name, nameOf(v.Type), w.expr(v.Type, 2))
	w.vars = append(w.vars, v)
	return text
}

func (w *author) nested(depth int) string {
	if w.Intn(2) == 0 {
		text := "if " + w.expr(api.TBool, 2) + " " + w.list(depth)
		if w.Intn(2) == 0 {
			text += " else " + w.list(depth)
		}
		return text
	}
	text := fmt.Sprintf("while %s most %d ", pick(w.Rand, "true", w.expr(api.TBool, 2)), 1+w.Intn(4))
	w.loops++
	text += w.list(depth)
	w.loops--
	return text
}

func (w *author) effect() string {
	switch w.Intn(16) {
	case 0:
		return pick(w.Rand, "fence group", "fence device")
	case 1:
		if w.Intn(4) == 0 {
			return "return"
		}
	case 2, 3:
		return "barrier"
	case 4, 5, 6:
		return w.collect()
	case 7, 8, 9:
		a := pick(w.Rand, w.arrays...)
		if ops := atomics(a); len(ops) > 0 {
			return "atomic " + w.word(a) + " " + pick(w.Rand, ops...) + " " + w.expr(a.Type, 2)
		}
	}
	a := pick(w.Rand, w.arrays...)
	return w.word(a) + " = " + w.expr(a.Type, 2)
}

func atomics(a api.Array) []string {
	switch {
	case a.Space == api.Private:
		return nil
	case a.Type == api.TInt:
		return []string{"add", "min", "max", "and", "or", "xor"}
	case a.Type == api.TFix:
		return []string{"add", "min", "max"}
	}
	return []string{"and", "or", "xor"}
}

func (w *author) collect() string {
	v, ok := w.variable()
	switch {
	case !ok:
		return ""
	case w.Intn(3) == 0:
		return fmt.Sprintf("%s = shuffle(%s, %s)", v.Name, w.expr(v.Type, 2), w.expr(api.TInt, 2))
	case v.Type == api.TBool:
		return fmt.Sprintf("%s = %s(%s)", v.Name, pick(w.Rand, "any", "all"), w.expr(api.TBool, 2))
	case v.Type == api.TInt && w.Intn(3) == 0:
		return fmt.Sprintf("%s = ballot(%s)", v.Name, w.expr(api.TBool, 2))
	}
	return fmt.Sprintf("%s = %s(%s)", v.Name, pick(w.Rand, "scan", "sum"), w.expr(v.Type, 2))
}

func (w *author) variable() (api.Param, bool) {
	if list := w.vars[w.params:]; len(list) > 0 {
		return pick(w.Rand, list...), true
	}
	return api.Param{}, false
}

// word writes a word of an array, whose index is seldom out of it.
func (w *author) word(a api.Array) string {
	index := fmt.Sprintf("(%s & %d)", w.expr(api.TInt, 1), a.Len-1)
	switch w.Intn(100) {
	case 0:
		index = fmt.Sprint(pick(w.Rand, -1, a.Len))
	case 1:
		index = w.expr(api.TInt, 1)
	}
	return a.Name + "[" + index + "]"
}

// expr writes an expression of a type.
func (w *author) expr(typ, depth int) string {
	if depth > 0 {
		switch w.Intn(8) {
		case 0:
			return w.unary(typ, depth-1)
		case 1, 2, 3:
			return w.binary(typ, depth-1)
		case 4:
			return fmt.Sprintf("(%s ? %s : %s)", w.expr(api.TBool, depth-1), w.expr(typ, depth-1), w.expr(typ, depth-1))
		case 5:
			if a := pick(w.Rand, w.arrays...); a.Type == typ {
				return w.word(a)
			}
		case 6:
			if len(w.funcs) > 0 {
				if f := pick(w.Rand, w.funcs...); f.typ == typ {
					return f.name + "(" + strings.Join(w.arguments(f, depth-1), ", ") + ")"
				}
			}
		}
	}
	for _, i := range w.Perm(len(w.vars)) {
		if w.vars[i].Type == typ && w.Intn(3) > 0 {
			return w.vars[i].Name
		}
	}
	if typ == api.TInt && w.Intn(3) == 0 {
		return pick(w.Rand, "@item", "@local", "@group", "@items", "@size", "@lane", "@sub")
	}
	v := anyWord(w.Rand)
	if typ == api.TBool {
		v &= 1
	}
	text, _ := scalar.Text(typ, v)
	return text
}

func (w *author) arguments(f fun, depth int) []string {
	var l []string
	for _, p := range f.params {
		l = append(l, w.expr(p.Type, depth))
	}
	return l
}

func (w *author) unary(typ, depth int) string {
	op := map[int][]string{api.TInt: {"neg", "not", "abs", "int"}, api.TFix: {"neg", "abs", "fix"}, api.TBool: {"not"}}[typ]
	name := pick(w.Rand, op...)
	from := map[string]int{"int": api.TFix, "fix": api.TInt}[name]
	if from == 0 {
		from = typ
	}
	return name + "(" + w.expr(from, depth) + ")"
}

func (w *author) binary(typ, depth int) string {
	ops, from := map[int]string{api.TInt: "+ - * / % & | ^ << >>", api.TFix: "+ - *. /.", api.TBool: "& | ^"}[typ], typ
	if typ == api.TBool && w.Intn(2) == 0 {
		ops, from = "== != < <= > >=", 1+w.Intn(2)
	} else if typ == api.TBool && w.Intn(3) == 0 {
		ops = "== !="
	} else if typ != api.TBool && w.Intn(5) == 0 {
		return fmt.Sprintf("%s(%s, %s)", pick(w.Rand, "min", "max"), w.expr(typ, depth), w.expr(typ, depth))
	}
	return fmt.Sprintf("(%s %s %s)", w.expr(from, depth), pick(w.Rand, strings.Fields(ops)...), w.expr(from, depth))
}

// accepted is the kernel of a text.
func accepted(t *testing.T, text string) api.Kernel {
	t.Helper()
	k := parse(t, text)
	if e := types.Check(k); e != api.OK {
		t.Fatalf("%d for %s", e, text)
	}
	return k
}

// kernelOf is the kernel with a number.
func kernelOf(t *testing.T, seed int64) api.Kernel {
	t.Helper()
	return accepted(t, newAuthor(t, seed).kernel())
}

// anyLaunch is a launch of a kernel with the head of the samples, and an item of it.
func anyLaunch(r *rand.Rand) (api.Launch, int) {
	l := api.Launch{Groups: 1 + r.Intn(5), Args: []int32{anyWord(r), anyWord(r), anyWord(r)}}
	return l, r.Intn(4 * l.Groups)
}

// visit is called for a thread of the item id that can be executed.
type visit func(r *rand.Rand, k api.Kernel, id int, s state)

// eachState calls f for the threads of n kernels, at the beginning and each time after they have waited, with memories in which all words have any values.
func eachState(t *testing.T, n int, f visit) {
	t.Helper()
	for seed := range int64(n) {
		k, r := kernelOf(t, seed), newRand(seed)
		l, id := anyLaunch(r)
		s, e := begin(t, k, l, id), api.OK
		for range 30 {
			s = s.fill(r)
			f(r, k, id, s)
			s, _, e = run(t, s)
			if e != api.OK || meaning.Where(s.th).At != api.AtEnd {
				break
			}
			s = s.pass(t, anyWord(r))
		}
	}
}

// TestAuthor checks that what the other tests are based on has all kinds of events and waits, errors among much that has none, and threads that wait often.
func TestAuthor(t *testing.T) {
	events, waits, errors, passed := map[int]int{}, map[meaning.Wait]int{}, map[api.Errno]int{}, 0
	eachState(t, 2000, func(_ *rand.Rand, _ api.Kernel, _ int, s state) {
		next, l, e := run(t, s)
		errors[e]++
		for _, v := range l {
			events[v.Kind]++
		}
		w := meaning.Where(next.th)
		waits[meaning.Wait{At: w.At, Op: w.Op}]++
		passed++
	})
	for kind := api.VLoad; kind <= api.VFence; kind++ {
		if events[kind] < 500 {
			t.Errorf("events: %v", events)
		}
	}
	for op := range api.SSum + 1 {
		if waits[meaning.Wait{At: api.AtEnd, Op: op}] < 100 {
			t.Errorf("waits: %v", waits)
		}
	}
	if waits[meaning.Wait{At: api.AtExit}] < 500 || errors[api.ErrIndex] < 50 || errors[api.ErrBig] != 0 || passed < 4000 {
		t.Errorf("%v, errors: %v, in all %d", waits, errors, passed)
	}
}

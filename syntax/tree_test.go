package syntax

import (
	"fmt"
	"math"
	"math/rand"
	"reflect"
	"strings"

	"warpwright/api"
	"warpwright/scalar"
)

// sample has all that a kernel can have.
const sample = `kernel k group 4 sub 2
global a int 8
shared f fix 4
private b bool 1
param n int
param t fix
func h(x int, y fix, z bool) fix {
  var v int = neg(x)
  while (v < 3) most 4 {
    v = (v + a[n])
    if z {
      break
    } else {
      var w bool = true
      continue
    }
  }
  if not(z) {
  }
  return (y *. fix(v))
}
func g() bool {
  return false
}
{
  var x int = (@item + n)
  var y fix = (t /. -0.5)
  if ((x >= 2) & g()) {
    a[x] = min(-1, a[(x & 7)])
  } else {
    atomic a[0] add int(h(x, -1.5, b[0]))
    atomic a[1] min 1
    atomic a[2] max (1 - -1)
    atomic a[3] and (@local % @group)
    atomic a[4] or (@items / @size)
    atomic a[5] xor (@lane << @sub)
    fence group
    fence device
  }
  x = ballot((x == 1))
  b = any((x != 1))
  b = all((x <= 1))
  x = shuffle(x, @lane)
  x = scan((b[0] ? 1 : 2))
  x = sum(abs(x))
  barrier
  while not(b[0]) most 1024 {
    if true {
      x = max(((x | 1) ^ 2), ((x >> 3) * 5))
      break
    }
    if (x > 1) {
    } else {
      continue
    }
    return
  }
}
`

func nameOf(list string, code int) string {
	for i, s := range strings.Fields(list) {
		if i+1 == code {
			return s
		}
	}
	return "?"
}

const (
	typeList   = "int fix bool"
	unaryList  = "neg not abs fix int"
	binaryList = "+ - * / % *. /. & | ^ << >> min max == != < <= > >="
)

// textOf is the canonical text of a kernel. Kernels that have none get some text, of which they are not the tree.
func textOf(k api.Kernel) string {
	s := fmt.Sprintf("kernel %s group %d sub %d\n", k.Name, k.Group, k.Sub)
	for _, a := range k.Arrays {
		s += fmt.Sprintf("%s %s %s %d\n", nameOf("global shared private", a.Space), a.Name, nameOf(typeList, a.Type), a.Len)
	}
	for _, a := range k.Params {
		s += "param " + paramText(a) + "\n"
	}
	for _, f := range k.Funcs {
		var params []string
		for _, a := range f.Params {
			params = append(params, paramText(a))
		}
		s += fmt.Sprintf("func %s(%s) %s {\n%s  return %s\n}\n", f.Name, strings.Join(params, ", "), nameOf(typeList, f.Type), bodyText("  ", f.Body), exprText(f.Ret))
	}
	return s + "{\n" + bodyText("  ", k.Body) + "}\n"
}

func paramText(a api.Param) string {
	return a.Name + " " + nameOf(typeList, a.Type)
}

func bodyText(indent string, body []api.Stmt) string {
	s := ""
	for _, x := range body {
		s += indent + stmtText(indent, x) + "\n"
	}
	return s
}

func stmtText(indent string, s api.Stmt) string {
	x, y := exprText(s.X), exprText(s.Y)
	body := "{\n" + bodyText(indent+"  ", s.Body) + indent + "}"
	switch s.Kind {
	case api.SVar:
		return fmt.Sprintf("var %s %s = %s", s.Name, nameOf(typeList, s.Type), x)
	case api.SSet:
		return s.Name + " = " + x
	case api.SStore:
		return fmt.Sprintf("%s[%s] = %s", s.Name, x, y)
	case api.SAtom:
		op := map[int]string{api.BAdd: "add", api.BMin: "min", api.BMax: "max", api.BAnd: "and", api.BOr: "or", api.BXor: "xor"}[s.Op]
		return fmt.Sprintf("atomic %s[%s] %s %s", s.Name, x, op, y)
	case api.SIf:
		if len(s.Else) > 0 {
			body += " else {\n" + bodyText(indent+"  ", s.Else) + indent + "}"
		}
		return fmt.Sprintf("if %s %s", x, body)
	case api.SWhile:
		return fmt.Sprintf("while %s most %d %s", x, s.Bound, body)
	case api.SBreak, api.SContinue, api.SReturn, api.SBarrier:
		return nameOf("break continue return barrier", s.Kind-api.SBreak+1)
	case api.SFence:
		return "fence " + nameOf("group device", s.Op)
	case api.SSub:
		if s.Op == api.SShuffle {
			x += ", " + y
		}
		return fmt.Sprintf("%s = %s(%s)", s.Name, nameOf("ballot any all shuffle scan sum", s.Op), x)
	}
	return "?"
}

func exprText(e api.Expr) string {
	var a []string
	for _, x := range e.A {
		a = append(a, exprText(x))
	}
	list := strings.Join(a, ", ")
	switch e.Kind {
	case api.ENum:
		if s, errno := scalar.Text(e.Type, e.V); errno == api.OK {
			return s
		}
	case api.EVar:
		return e.Name
	case api.EId:
		return "@" + nameOf("item local group items size lane sub", e.Op)
	case api.EUn:
		return nameOf(unaryList, e.Op) + "(" + list + ")"
	case api.EBin:
		op := nameOf(binaryList, e.Op-api.BAdd+1)
		if op == "min" || op == "max" {
			return op + "(" + list + ")"
		}
		return "(" + strings.Join(a, " "+op+" ") + ")"
	case api.ECond:
		if len(a) == 3 {
			return "(" + a[0] + " ? " + a[1] + " : " + a[2] + ")"
		}
	case api.ELoad:
		return e.Name + "[" + list + "]"
	case api.ECall:
		return e.Name + "(" + list + ")"
	}
	return "?"
}

// same compares two trees; lists that are nil and empty are the same.
func same(a, b any) bool {
	return sameValue(reflect.ValueOf(a), reflect.ValueOf(b))
}

func sameValue(a, b reflect.Value) bool {
	switch a.Kind() {
	case reflect.Struct:
		for i := range a.NumField() {
			if !sameValue(a.Field(i), b.Field(i)) {
				return false
			}
		}
		return true
	case reflect.Slice:
		if a.Len() != b.Len() {
			return false
		}
		for i := range a.Len() {
			if !sameValue(a.Index(i), b.Index(i)) {
				return false
			}
		}
		return true
	}
	return a.Equal(b)
}

// maker makes trees that are valid.
type maker struct {
	*rand.Rand
	budget   int // nodes
	function bool
}

func make1(seed int64) api.Kernel {
	m := maker{rand.New(rand.NewSource(seed)), 60, false}
	k := api.Kernel{Name: m.name(), Group: m.size(), Sub: m.size()}
	for range m.Intn(4) {
		k.Arrays = append(k.Arrays, api.Array{Name: m.name(), Space: 1 + m.Intn(3), Type: 1 + m.Intn(3), Len: m.size()})
	}
	k.Params = m.params(4)
	for range m.Intn(3) {
		m.function = true
		f := api.Func{Name: m.name(), Params: m.params(8), Type: 1 + m.Intn(3), Body: m.stmts(4), Ret: m.expr(4)}
		k.Funcs = append(k.Funcs, f)
	}
	m.function = false
	m.budget = 100
	k.Body = m.stmts(5)
	return k
}

func (m *maker) name() string {
	const first, later = "abkxyzKZ", "aekz019Z"
	s := first[m.Intn(len(first)):][:1]
	for range m.Intn(12) {
		s += later[m.Intn(len(later)):][:1]
	}
	return s
}

func (m *maker) size() int {
	return []int{0, 1, 4, 64, 1024, -1, -70, math.MaxInt64, math.MinInt64, m.Int()}[m.Intn(10)]
}

func (m *maker) params(most int) []api.Param {
	var list []api.Param
	for range m.Intn(most + 1) {
		list = append(list, api.Param{Name: m.name(), Type: 1 + m.Intn(3)})
	}
	return list
}

func (m *maker) stmts(depth int) []api.Stmt {
	var list []api.Stmt
	for depth > 0 && m.Intn(5) > 0 && m.budget > 0 {
		list = append(list, m.stmt(depth-1))
	}
	return list
}

func (m *maker) stmt(depth int) api.Stmt {
	m.budget--
	kind := api.SVar + m.Intn(api.SSub)
	for m.function && !strings.Contains(" 1 2 5 6 7 8 ", fmt.Sprintf(" %d ", kind)) {
		kind = api.SVar + m.Intn(api.SContinue)
	}
	s := api.Stmt{Kind: kind}
	switch kind {
	case api.SVar:
		s.Name, s.Type, s.X = m.name(), 1+m.Intn(3), m.expr(4)
	case api.SSet:
		s.Name, s.X = m.name(), m.expr(5)
	case api.SStore:
		s.Name, s.X, s.Y = m.name(), m.expr(4), m.expr(4)
	case api.SAtom:
		s.Name, s.X, s.Y = m.name(), m.expr(4), m.expr(4)
		s.Op = []int{api.BAdd, api.BMin, api.BMax, api.BAnd, api.BOr, api.BXor}[m.Intn(6)]
	case api.SIf:
		s.X, s.Body, s.Else = m.expr(4), m.stmts(depth), m.stmts(depth)
	case api.SWhile:
		s.X, s.Bound, s.Body = m.expr(4), m.size(), m.stmts(depth)
	case api.SFence:
		s.Op = 1 + m.Intn(2)
	case api.SSub:
		s.Name, s.Op, s.X = m.name(), 1+m.Intn(6), m.expr(4)
		if s.Op == api.SShuffle {
			s.Y = m.expr(4)
		}
	}
	return s
}

func (m *maker) expr(depth int) api.Expr {
	m.budget--
	e := api.Expr{Kind: api.ENum + m.Intn(api.ECall)}
	if depth <= 1 || m.budget <= 0 {
		e.Kind = api.ENum + m.Intn(api.EId)
	}
	operands := 0
	switch e.Kind {
	case api.ENum:
		e.Type, e.V = 1+m.Intn(3), int32(m.Uint64())>>m.Intn(32)
		if e.Type == api.TBool {
			e.V &= 1
		}
	case api.EVar:
		e.Name = m.name()
	case api.EId:
		e.Op = 1 + m.Intn(7)
	case api.EUn:
		e.Op, operands = 1+m.Intn(5), 1
	case api.EBin:
		e.Op, operands = api.BAdd+m.Intn(20), 2
	case api.ECond:
		operands = 3
	case api.ELoad:
		e.Name, operands = m.name(), 1
	case api.ECall:
		e.Name, operands = m.name(), m.Intn(9)
	}
	for range operands {
		e.A = append(e.A, m.expr(depth-1))
	}
	return e
}

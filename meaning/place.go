package meaning

import (
	"maps"
	"slices"

	"warpwright/api"
)

// place is where the body of a kernel or function is, and what its variables and parameters are.
type place struct {
	stack []frame
	// No two things that are visible at the same place have the same name, so a single map has all variables. Those that are not visible any more stay in it, but nothing names them before they are declared again.
	vars map[string]value
}

// value is a word with its type.
type value struct {
	v   int32
	typ int
}

// frame is a list of statements that is being executed.
type frame struct {
	rest []api.Stmt // those that have not begun
	loop *api.Stmt  // the SWhile whose Body the list is; otherwise nil
	left int        // how often the condition of the loop may still be evaluated
}

func newPlace(body []api.Stmt, params []api.Param, args []value) place {
	p := place{[]frame{{rest: body}}, map[string]value{}}
	for i, x := range params {
		p.vars[x.Name] = args[i]
	}
	return p
}

func (p place) clone() place {
	return place{slices.Clone(p.stack), maps.Clone(p.vars)}
}

func (p *place) push(f frame) {
	p.stack = append(p.stack, f)
}

func (p *place) pop() {
	p.stack = p.stack[:len(p.stack)-1]
}

func (p *place) top() *frame {
	return &p.stack[len(p.stack)-1]
}

// toLoop gives up the lists that are in the Body of the innermost loop, and what is left of this.
func (p *place) toLoop() {
	for p.top().loop == nil {
		p.pop()
	}
	p.top().rest = nil
}

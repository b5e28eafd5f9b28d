package convert_test

import (
	"slices"
	"strconv"
	"strings"
	"testing"

	"warpwright/api"
	"warpwright/code"
)

// coded is a code with so many registers, and these blocks as texts, with semicolons between their lines.
func coded(t *testing.T, regs int, blocks ...string) api.Code {
	t.Helper()
	text := "code 4 2 " + strconv.Itoa(regs) + " 2 2\narray g 1 1 4\narray s 2 1 4\narray p 3 1 4\n"
	for _, b := range blocks {
		text += "block\n" + strings.ReplaceAll(b, "; ", "\n") + "\n"
	}
	c, e := code.Parse(text)
	if e != api.OK {
		t.Fatalf("%d for %s", e, text)
	}
	return c
}

// example is a code, and what it is if it is converted at some blocks in turn, which are those of Run if nothing is uniform.
type example struct {
	name      string
	regs      int
	blocks    []string
	at        []int
	then      int // registers
	converted []string
}

func (x example) check(t *testing.T) {
	t.Helper()
	c, want := coded(t, x.regs, x.blocks...), coded(t, x.then, x.converted...)
	if x.regs > 0 {
		c.Loops = []api.Loop{{Head: 0, Reg: 0, Bound: 5}}
		want.Loops = c.Loops
	}
	d, list := run(t, c, said(c, false))
	if !slices.Equal(list.B, x.at) || !same(d, want) {
		text, _ := code.Text(d)
		t.Errorf("%s: %v, %s", x.name, list.B, text)
	}
	if e := check(t, c, want, x.at...); e != api.OK {
		t.Errorf("%s: %d", x.name, e)
	}
	if wrong := check(t, c, want, append(slices.Clone(x.at), 0)...); wrong != api.ErrCert {
		t.Errorf("%s: accepted with a block more", x.name)
	}
	// whether the branches are uniform does not matter for Check, but for Run
	if d, list := run(t, c, said(c, true)); len(list.B) > 0 || !same(d, c) {
		t.Errorf("%s: uniform branches: %v, %+v", x.name, list.B, d)
	}
}

func blocks(l ...string) []string { return l }

// P13.1, by hand.
func TestExamples(t *testing.T) {
	for _, x := range []example{
		{"the chapter's", 3,
			blocks("branch r0 1 2", "mov r1 5; jump 3", "bin 10 r1 r0 1; mov r2 r1; jump 3", "exit"), []int{0},
			7, blocks("mov r3 r0; mov r4 5; bin 10 r5 r0 1; mov r6 r5; sel r1 r3 r4 r5; sel r2 r3 r2 r6; jump 3", "exit", "exit", "exit")},
		{"an arm, if the condition holds", 2,
			blocks("id 1 r0; branch r0 1 2", "mov r1 r0; jump 2", "exit"), []int{0},
			4, blocks("id 1 r0; mov r2 r0; mov r3 r0; sel r1 r2 r3 r1; jump 2", "exit", "exit")},
		{"an arm, if it does not", 2,
			blocks("id 1 r0; branch r0 2 1", "mov r1 r0; jump 2", "exit"), []int{0},
			4, blocks("id 1 r0; mov r2 r0; mov r3 r0; sel r1 r2 r1 r3; jump 2", "exit", "exit")},
		{"arms without instructions", 1,
			blocks("branch r0 1 2", "jump 3", "jump 3", "exit"), []int{0},
			2, blocks("mov r1 r0; jump 3", "exit", "exit", "exit")},
		{"an arm without instructions", 1,
			blocks("branch r0 2 1", "jump 2", "exit"), []int{0},
			2, blocks("mov r1 r0; jump 2", "exit", "exit")},
		{"a constant as the condition, and no registers", 0,
			blocks("branch 7 1 2", "jump 2", "exit"), []int{0},
			1, blocks("mov r0 7; jump 2", "exit", "exit")},
		{"all instructions that are pure", 2,
			blocks("branch 1 1 2", "mov r0 -1; un 3 r0 r0; bin 11 r0 r1 r0; sel r1 r0 r1 r0; id 2 r0; param 1 r0; jump 2", "exit"), []int{0},
			9, blocks("mov r2 1; mov r3 -1; un 3 r4 r3; bin 11 r5 r1 r4; sel r6 r5 r1 r5; id 2 r7; param 1 r8; sel r0 r2 r8 r0; sel r1 r2 r6 r1; jump 2", "exit", "exit")},
		{"the condition is defined in both arms", 1,
			blocks("branch r0 1 2", "mov r0 0; mov r0 r0; jump 3", "bin 10 r0 r0 r0; jump 3", "exit"), []int{0},
			5, blocks("mov r1 r0; mov r2 0; mov r3 r2; bin 10 r4 r0 r0; sel r0 r1 r3 r4; jump 3", "exit", "exit", "exit")},
		{"an arm reads what the other one defines, and what it defines itself later", 3,
			blocks("branch r0 1 2", "mov r1 r2; mov r0 r1; mov r1 3; jump 3", "mov r2 r1; jump 3", "exit"), []int{0},
			8, blocks("mov r3 r0; mov r4 r2; mov r5 r4; mov r6 3; mov r7 r1; sel r0 r3 r5 r0; sel r1 r3 r6 r1; sel r2 r3 r2 r7; jump 3", "exit", "exit", "exit")},
		{"a definition that reads what it defines", 1,
			blocks("branch r0 2 1", "bin 10 r0 r0 r0; bin 12 r0 r0 r0; jump 2", "exit"), []int{0},
			4, blocks("mov r1 r0; bin 10 r2 r0 r0; bin 12 r3 r2 r2; sel r0 r1 r0 r3; jump 2", "exit", "exit")},
		{"selects go by the numbers of registers, not of new ones", 12,
			blocks("branch 1 2 1", "mov r11 0; mov r2 1; mov r9 2; mov r0 3; mov r10 4; jump 2", "exit"), []int{0},
			18, blocks("mov r12 1; mov r13 0; mov r14 1; mov r15 2; mov r16 3; mov r17 4; sel r0 r12 r0 r16; sel r2 r12 r2 r14; sel r9 r12 r9 r15; sel r10 r12 r10 r17; sel r11 r12 r11 r13; jump 2", "exit", "exit")},
		{"To[0] goes first, also if its number is greater", 1,
			blocks("branch r0 2 1", "mov r0 1; jump 3", "mov r0 2; jump 3", "exit"), []int{0},
			4, blocks("mov r1 r0; mov r2 2; mov r3 1; sel r0 r1 r2 r3; jump 3", "exit", "exit", "exit")},
		{"accesses before the branch and behind it stay", 1,
			blocks("load 0 r0 1; store 1 0 r0; fence 2; put 1 r0; branch r0 1 2", "mov r0 1; jump 2", "get 1 r0; atom 10 0 r0 1; barrier 3", "exit"), []int{0},
			3, blocks("load 0 r0 1; store 1 0 r0; fence 2; put 1 r0; mov r1 r0; mov r2 1; sel r0 r1 r2 r0; jump 2", "exit", "get 1 r0; atom 10 0 r0 1; barrier 3", "exit")},
	} {
		x.check(t)
	}
}

// P13.1: what leads to what, by hand.
func TestExamplesOfFlow(t *testing.T) {
	for _, x := range []example{
		{"blocks in turn, from the last one", 1,
			blocks("branch r0 1 2", "jump 2", "branch r0 4 3", "jump 4", "exit"), []int{2, 0},
			3, blocks("mov r2 r0; jump 2", "exit", "mov r1 r0; jump 4", "exit", "exit")},
		{"the arm of a branch becomes one by a conversion", 2,
			blocks("branch r0 1 3", "branch r1 2 3", "mov r1 0; jump 3", "exit"), []int{1, 0},
			8, blocks("mov r4 r0; mov r5 r1; mov r6 0; sel r7 r5 r6 r1; sel r1 r4 r7 r1; sel r2 r4 r5 r2; sel r3 r4 r6 r3; jump 3", "exit", "exit", "exit")},
		{"it does so behind the branch, when this has been passed already", 2,
			blocks("jump 4", "branch r1 2 3", "mov r1 0; jump 3", "exit", "branch r0 1 3"), []int{1, 4},
			8, blocks("jump 4", "exit", "exit", "exit", "mov r4 r0; mov r5 r1; mov r6 0; sel r7 r5 r6 r1; sel r1 r4 r7 r1; sel r2 r4 r5 r2; sel r3 r4 r6 r3; jump 3")},
		{"both targets are branches", 1,
			blocks("branch r0 1 2", "branch r0 3 4", "branch r0 4 5", "jump 4", "exit", "jump 4"), []int{2, 1, 0},
			6, blocks("mov r3 r0; mov r4 r0; mov r5 r0; sel r1 r3 r1 r5; sel r2 r3 r4 r2; jump 4", "exit", "exit", "exit", "exit", "exit")},
		{"a branch behind which it goes back", 1,
			blocks("jump 1", "jump 2", "branch r0 3 4", "mov r0 1; jump 1", "mov r0 2; jump 1"), []int{2},
			4, blocks("jump 1", "jump 2", "mov r1 r0; mov r2 1; mov r3 2; sel r0 r1 r2 r3; jump 1", "exit", "exit")},
		{"the join is block 0", 1,
			blocks("jump 1", "branch r0 2 0", "jump 0"), []int{1},
			2, blocks("jump 1", "mov r1 r0; jump 0", "exit")},
		{"the join leads back to the branch, as does that of a loop", 1,
			blocks("branch r0 1 2", "mov r0 1; jump 2", "branch r0 0 3", "exit"), []int{0},
			3, blocks("mov r1 r0; mov r2 1; sel r0 r1 r2 r0; jump 2", "exit", "branch r0 0 3", "exit")},
		{"what is not reached leads to an arm", 1,
			blocks("branch r0 1 2", "jump 2", "exit", "jump 1", "branch r0 1 2"), []int{0},
			2, blocks("mov r1 r0; jump 2", "exit", "exit", "jump 1", "branch r0 1 2")},
		{"two targets of another end", 1,
			blocks("branch r0 1 2", "jump 2", "branch r0 3 3", "jump 4", "exit"), []int{0},
			2, blocks("mov r1 r0; jump 2", "exit", "branch r0 3 3", "jump 4", "exit")},
	} {
		x.check(t)
	}
}

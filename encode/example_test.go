package encode_test

import (
	"bytes"
	"encoding/hex"
	"math"
	"slices"
	"strings"
	"testing"

	"warpwright/api"
	"warpwright/encode"
)

// chapter is the example of the chapter.
func chapter() api.Prog {
	return api.Prog{Group: 2, Sub: 1, Vregs: 1, P: []api.Op{
		{Kind: api.VBlock, At: 2}, {Kind: api.VDo, I: api.Inst{Op: api.IId, Sub: api.IdItem, D: reg(0)}}, {Kind: api.VEnd, At: 0}, {Kind: api.VExit},
	}}
}

// P19.1, P19.6: the example of the chapter.
func TestChapter(t *testing.T) {
	p := chapter()
	if !compare(t, p) {
		t.Fatal("not valid")
	}
	if s := text(t, p); s != "0: block 2\n1:   do 0 id 1 r0\n2: end 0\n3: exit\n" {
		t.Errorf("%q", s)
	}
	if b := encoded(t, p); len(b) != 96 {
		t.Errorf("%d bytes", len(b))
	}
	p.P = slices.Delete(p.P, 2, 3)
	if valid(t, p) {
		t.Error("without the VEnd")
	}
	p = chapter()
	p.P[0].At = 1
	if valid(t, p) {
		t.Error("with At 1")
	}
}

// bytesOf returns the bytes that hexadecimal digits stand for; an underscore stands for seven zeros, and a tilde for seven digits f.
func bytesOf(t *testing.T, digits string) []byte {
	t.Helper()
	digits = strings.NewReplacer("_", "0000000", "~", "fffffff", " ", "", "\n", "", "\t", "").Replace(digits)
	b, err := hex.DecodeString(digits)
	if err != nil {
		t.Fatal(err)
	}
	return b
}

// P19.1, for S2: the bytes of the chapter's example, and of a program with arrays and maps.
func TestBytesByHand(t *testing.T) {
	head := "_2 _1 _0 _1 _0 _0" // Group, Sub, Params, Vregs, Sregs, Slots
	want := bytesOf(t, head+"_0 _4  _4 _2  _1 _0 _5 _1 _0 _2 _0 _0 _0 _0  _6 _0  _9  _0")
	if b := encoded(t, chapter()); !bytes.Equal(b, want) {
		t.Errorf("%x, not %x", b, want)
	}
	p := api.Prog{Group: 256, Sub: 32, Params: 8, Vregs: 255, Sregs: 3, Slots: 16, P: []api.Op{exit()}}
	p.Arrays = []api.Array{{Name: "aZ9", Space: api.Private, Type: api.TFix, Len: 4096}, {Name: "b", Space: api.Global, Type: api.TBool, Len: 1}}
	p.Maps = []api.Map{{At: api.AtBlock, Block: 300, Loc: []api.Loc{{Reg: 1, Kind: api.OScalar, N: 2}, {Reg: 255, Kind: api.KSlot, N: 15}}}, {At: api.AtBlock, Block: 7}}
	want = bytesOf(t, `00000100 00000020 _8 000000ff _3 00000010
		_2 _3 615a39 _3 _2 00001000  _1 62 _1 _3 _1
		_1 _9
		_2 _0 _1 0000012c _2 _1 _3 _2 000000ff _4 _f  _0 _1 _7 _0`)
	if b := encoded(t, p); !bytes.Equal(b, want) {
		t.Errorf("%x, not %x", b, want)
	}
}

// closed puts an operation into a program which is valid with it, and returns its index.
func closed(o api.Op) (api.Prog, int) {
	switch o.Kind {
	case api.VIf:
		return made(o, to(api.VElse, 2), to(api.VEnd, 0), exit()), 0
	case api.VElse:
		return made(fork(0, num(0), 1), o, to(api.VEnd, 0), exit()), 1
	case api.VBlock, api.VLoop:
		return made(o, to(api.VEnd, 0), exit()), 0
	case api.VEnd:
		return made(to(api.VLoop, 1), o, exit()), 1
	case api.VBreak:
		return made(exit(), to(api.VLoop, 3), o, to(api.VEnd, 1), exit()), 2
	}
	return made(o, exit()), 0
}

// P19.1 and P19.7: the bytes and the line of each kind of operation, with each kind of operand.
func TestOperationsByHand(t *testing.T) {
	bin := api.Inst{Op: api.IBin, Sub: api.BGe, D: scalar(1), A: scalar(2), B: num(-2)}
	least, most := num(math.MinInt32), num(math.MaxInt32)
	for _, x := range []struct {
		o     api.Op
		bytes string
		line  string
	}{
		{do(3, api.Inst{Op: api.IMov, D: reg(2), A: num(5)}), "_1 _3 _1 _0 _0 _2 _2 _1 _5 _0 _0", "do 3 mov r2 5"},
		{do(0, api.Inst{Op: api.IMov, D: scalar(0), A: least}), "_1 _0 _1 _0 _0 _3 _0 _1 80000000 _0 _0", "do 0 mov s0 -2147483648"},
		{do(399, api.Inst{Op: api.IUn, Sub: api.UInt, D: reg(3), A: scalar(2)}), "_1 0000018f _2 _5 _0 _2 _3 _3 _2 _0 _0", "do 399 un 5 r3 s2"},
		{do(10, bin), "_1 _a _3 0000001d _0 _3 _1 _3 _2 _1 ~e _0", "do 10 bin 29 s1 s2 -2"},
		{do(1, api.Inst{Op: api.ISel, D: reg(0), A: reg(1), B: reg(2), C: reg(3)}), "_1 _1 _4 _0 _0 _2 _0 _2 _1 _2 _2 _2 _3", "do 1 sel r0 r1 r2 r3"},
		{do(1, api.Inst{Op: api.ISel, D: reg(3), A: reg(2), B: scalar(0), C: reg(0)}), "_1 _1 _4 _0 _0 _2 _3 _2 _2 _3 _0 _2 _0", "do 1 sel r3 r2 s0 r0"},
		{do(1, api.Inst{Op: api.ISel, D: scalar(2), A: most, B: scalar(1), C: scalar(0)}), "_1 _1 _4 _0 _0 _3 _2 _1 7fffffff _3 _1 _3 _0", "do 1 sel s2 2147483647 s1 s0"},
		{do(2, api.Inst{Op: api.IId, Sub: api.IdSub, D: reg(1)}), "_1 _2 _5 _7 _0 _2 _1 _0 _0 _0", "do 2 id 7 r1"},
		{do(2, api.Inst{Op: api.IParam, N: 1, D: scalar(0)}), "_1 _2 _6 _0 _1 _3 _0 _0 _0 _0", "do 2 param 1 s0"},
		{do(2, api.Inst{Op: api.ILoad, N: 2, D: reg(0), A: reg(2)}), "_1 _2 _7 _0 _2 _2 _0 _2 _2 _0 _0", "do 2 load 2 r0 r2"},
		{do(2, api.Inst{Op: api.IStore, N: 0, A: reg(1), B: reg(1)}), "_1 _2 _8 _0 _0 _0 _2 _1 _2 _1 _0", "do 2 store 0 r1 r1"},
		{do(2, api.Inst{Op: api.IAtom, Sub: api.BAdd, N: 1, A: scalar(1), B: num(0)}), "_1 _2 _9 _a _1 _0 _3 _1 _1 _0 _0", "do 2 atom 10 1 s1 0"},
		{do(2, api.Inst{Op: api.IFence, Sub: api.FenceGroup}), "_1 _2 _a _1 _0 _0 _0 _0 _0", "do 2 fence 1"},
		{do(2, api.Inst{Op: api.IGet, N: 1, D: reg(3)}), "_1 _2 _b _0 _1 _2 _3 _0 _0 _0", "do 2 get 1 r3"},
		{do(2, api.Inst{Op: api.IPut, N: 0, A: num(-1)}), "_1 _2 _c _0 _0 _0 _1 ~f _0 _0", "do 2 put 0 -1"},
		{fork(6, reg(3), 1), "_2 _6 _2 _3 _1", "if 6 r3 1"},
		{fork(6, scalar(1), 1), "_2 _6 _3 _1 _1", "if 6 s1 1"},
		{fork(6, num(-1), 1), "_2 _6 _1 ~f _1", "if 6 -1 1"},
		{to(api.VElse, 2), "_3 _2", "else 2"},
		{to(api.VBlock, 1), "_4 _1", "block 1"},
		{to(api.VLoop, 1), "_5 _1", "loop 1"},
		{to(api.VEnd, 0), "_6 _0", "end 0"},
		{to(api.VBreak, 1), "_7 _1", "break 1"},
		{wait(5, barrier()), "_8 _5 _3", "sync 5 barrier"},
		{wait(5, collect(api.SBallot, reg(0), reg(1), reg(2))), "_8 _5 _4 _1 _2 _0 _2 _1 _2 _2", "sync 5 collect 1 r0 r1 r2"},
		{wait(5, collect(api.SScan, reg(3), scalar(2), num(9))), "_8 _5 _4 _5 _2 _3 _3 _2 _1 _9", "sync 5 collect 5 r3 s2 9"},
		{exit(), "_9", "exit"},
		{of(api.VMark, 258), "_a 00000102", "mark 258"},
		{here(16), "_b 00000010", "here 16"},
	} {
		p, n := closed(x.o)
		if !compare(t, p) {
			t.Fatalf("not valid: %+v", x.o)
		}
		lines := strings.Split(text(t, p), "\n")
		if got := strings.TrimLeft(lines[n][2:], " "); got != x.line {
			t.Errorf("%q, not %q", got, x.line)
		}
		want := bytesOf(t, x.bytes)
		before := len(wantBytes(p)) - len(wantBytes(api.Prog{Arrays: p.Arrays, P: p.P[n:]})) // as the numbers of operations have four bytes each
		head := len(wantBytes(api.Prog{Arrays: p.Arrays})) - 4
		if b := encoded(t, p)[head+before:]; !bytes.HasPrefix(b, want) {
			t.Errorf("%x, not %x, for %s", b, want, x.line)
		}
	}
}

// P19.1 and P19.7: the text of a program with all kinds of operations.
func TestTextByHand(t *testing.T) {
	if got := text(t, every()); got != `0: do 0 mov r3 s2
1: do 0 mov s0 -7
2: do 0 un 1 r2 r3
3: do 0 bin 29 s1 s0 -2147483648
4: do 0 sel r0 r3 s2 r2
5: mark 0
6: loop 25
7:   block 20
8:     do 1 id 1 r0
9:     do 1 id 5 s2
10:     do 1 param 1 r1
11:     if 1 r0 15
12:       do 399 load 2 r3 0
13:       do 399 store 1 r2 s1
14:       break 6
15:     else 18
16:       do 2 atom 19 0 r1 2147483647
17:       break 7
18:     end 11
19:     do 3 fence 2
20:   end 7
21:   do 4 get 1 r1
22:   do 4 put 0 s0
23:   sync 4 collect 6 r2 s1 5
24:   here 5
25: end 6
26: sync 6 barrier
27: exit
28: if 7 1 29
29: else 30
30: end 28
31: if 8 s2 33
32:   exit
33: else 34
34: end 31
35: exit
` {
		t.Error(got)
	}
}

// instructed is a program with this instruction, which can have what it needs.
func instructed(i api.Inst) api.Prog { return made(do(0, i), exit()) }

// P19.1, for S1: instructions that there are, and others.
func TestInstructionsByHand(t *testing.T) {
	v, s, c := reg(1), scalar(1), num(1)
	for _, i := range []api.Inst{
		{Op: api.IMov, D: v, A: v}, {Op: api.IMov, D: v, A: s}, {Op: api.IMov, D: v, A: c}, {Op: api.IMov, D: s, A: s}, {Op: api.IMov, D: s, A: c},
		{Op: api.IMov, D: reg(3), A: scalar(2)}, {Op: api.IMov, D: scalar(2), A: scalar(0)},
		{Op: api.IUn, Sub: api.UNeg, D: s, A: s}, {Op: api.IUn, Sub: api.UInt, D: v, A: v},
		{Op: api.IBin, Sub: api.BAdd, D: s, A: s, B: c}, {Op: api.IBin, Sub: api.BGe, D: v, A: s, B: s},
		{Op: api.ISel, D: s, A: c, B: s, C: s}, {Op: api.ISel, D: v, A: c, B: c, C: c},
		{Op: api.IId, Sub: api.IdGroup, D: s}, {Op: api.IId, Sub: api.IdItems, D: s}, {Op: api.IId, Sub: api.IdSize, D: s}, {Op: api.IId, Sub: api.IdItem, D: v}, {Op: api.IId, Sub: api.IdSub, D: v},
		{Op: api.IParam, D: s}, {Op: api.IParam, N: 1, D: v},
		{Op: api.ILoad, D: v, A: s}, {Op: api.ILoad, N: 2, D: v, A: v}, {Op: api.IStore, A: s, B: s}, {Op: api.IStore, N: 2, A: c, B: c},
		{Op: api.IAtom, Sub: api.BMin, A: s, B: v}, {Op: api.IAtom, Sub: api.BOr, N: 1, A: c, B: s},
		{Op: api.IFence, Sub: api.FenceDevice}, {Op: api.IGet, N: 1, D: v}, {Op: api.IPut, N: 1, A: s}, {Op: api.IPut, A: c},
	} {
		if !compare(t, instructed(i)) {
			t.Errorf("%+v is refused", i)
		}
		p := instructed(i)
		p.P[0].Scalar = !p.P[0].Scalar
		if compare(t, p) {
			t.Errorf("%+v is valid", p.P[0])
		}
	}
	for _, i := range []api.Inst{
		{}, {Op: -1, D: v, A: v}, {Op: 13, D: v, A: v}, {Op: api.IMov}, {Op: api.IMov, D: v}, {Op: api.IMov, A: v}, {Op: api.IMov, D: c, A: v}, {Op: api.IMov, D: v, A: v, B: v},
		{Op: api.IMov, D: reg(4), A: v}, {Op: api.IMov, D: reg(-1), A: v}, {Op: api.IMov, D: scalar(3), A: s}, {Op: api.IMov, D: v, A: reg(4)}, {Op: api.IMov, D: v, A: scalar(3)}, {Op: api.IMov, D: v, A: scalar(-1)},
		{Op: api.IMov, D: s, A: v}, {Op: api.IUn, Sub: api.UNeg, D: s, A: v}, {Op: api.IBin, Sub: api.BAdd, D: s, A: v, B: s}, {Op: api.IBin, Sub: api.BAdd, D: s, A: c, B: v},
		{Op: api.ISel, D: s, A: v, B: s, C: s}, {Op: api.ISel, D: s, A: s, B: v, C: s}, {Op: api.ISel, D: s, A: s, B: s, C: v}, {Op: api.ISel, D: v, A: s, B: s},
		{Op: api.IId, Sub: api.IdItem, D: s}, {Op: api.IId, Sub: api.IdLocal, D: s}, {Op: api.IId, Sub: api.IdLane, D: s}, {Op: api.IId, Sub: api.IdSub, D: s}, {Op: api.IId, Sub: 8, D: v}, {Op: api.IId, D: v},
		{Op: api.IUn, Sub: 0, D: v, A: v}, {Op: api.IUn, Sub: 6, D: v, A: v}, {Op: api.IBin, Sub: 9, D: v, A: v, B: v}, {Op: api.IBin, Sub: 30, D: v, A: v, B: v},
		{Op: api.IParam, N: 2, D: v}, {Op: api.IParam, N: -1, D: v}, {Op: api.ILoad, N: 3, D: v, A: v}, {Op: api.ILoad, D: s, A: s}, {Op: api.ILoad, N: -1, D: v, A: v}, {Op: api.IStore, N: 3, A: v, B: v}, {Op: api.IStore, D: v, A: v, B: v},
		{Op: api.IAtom, Sub: api.BAdd, N: 2, A: v, B: v}, {Op: api.IAtom, Sub: api.BSub, A: v, B: v}, {Op: api.IAtom, Sub: api.BAdd, D: s, A: v, B: v},
		{Op: api.IFence}, {Op: api.IFence, Sub: 3}, {Op: api.IFence, Sub: 1, N: 1}, {Op: api.IGet, N: 2, D: v}, {Op: api.IGet, D: s}, {Op: api.IGet, N: -1, D: v}, {Op: api.IPut, N: 2, A: v}, {Op: api.IPut, Sub: 1, A: v},
	} {
		p := instructed(i)
		for _, p.P[0].Scalar = range []bool{false, true} {
			if compare(t, p) {
				t.Errorf("%+v is valid", p.P[0])
			}
		}
	}
}

// P19.1, for S1: a program with one register less than it needs.
func TestRegisterNumbers(t *testing.T) {
	for _, i := range []api.Inst{{Op: api.IMov, D: reg(255), A: num(0)}, {Op: api.IMov, D: scalar(255), A: num(0)}, {Op: api.IPut, A: reg(255)}, {Op: api.IPut, A: scalar(255)}} {
		p := instructed(i)
		if valid(t, p) {
			t.Errorf("%+v with few registers", i)
		}
		for vregs := 254; vregs <= 257; vregs++ {
			for sregs := 254; sregs <= 257; sregs++ {
				p.Vregs, p.Sregs = vregs, sregs
				want := vregs <= 256 && sregs <= 256 && (vregs == 256 || i.D.Kind != api.OReg && i.A.Kind != api.OReg) && (sregs == 256 || i.D.Kind != api.OScalar && i.A.Kind != api.OScalar)
				if compare(t, p) != want {
					t.Errorf("not %t for %+v with %d and %d", want, i, vregs, sregs)
				}
			}
		}
	}
}

// P19.1, for S1: changes of a valid program, and whether it is still valid.
func TestChangesByHand(t *testing.T) {
	for what, x := range map[string]struct {
		change func(p *api.Prog)
		want   bool
	}{
		"none":                         {func(p *api.Prog) {}, true},
		"Group 0":                      {func(p *api.Prog) { p.Group = 0 }, false},
		"Group 256":                    {func(p *api.Prog) { p.Group = 256 }, true},
		"Group 260":                    {func(p *api.Prog) { p.Group = 260 }, false},
		"Group 6":                      {func(p *api.Prog) { p.Group = 6 }, false},
		"Sub 8":                        {func(p *api.Prog) { p.Sub = 8 }, true},
		"Sub 0":                        {func(p *api.Prog) { p.Sub = 0 }, false},
		"Sub 64":                       {func(p *api.Prog) { p.Group, p.Sub = 64, 64 }, false},
		"Params 8":                     {func(p *api.Prog) { p.Params = 8 }, true},
		"Params 9":                     {func(p *api.Prog) { p.Params = 9 }, false},
		"Params 1":                     {func(p *api.Prog) { p.Params = 1 }, false},
		"Vregs 256":                    {func(p *api.Prog) { p.Vregs = 256 }, true},
		"Vregs 257":                    {func(p *api.Prog) { p.Vregs = 257 }, false},
		"Vregs 3":                      {func(p *api.Prog) { p.Vregs = 3 }, false},
		"Sregs 256":                    {func(p *api.Prog) { p.Sregs = 256 }, true},
		"Sregs 257":                    {func(p *api.Prog) { p.Sregs = 257 }, false},
		"Sregs 2":                      {func(p *api.Prog) { p.Sregs = 2 }, false},
		"Slots 256":                    {func(p *api.Prog) { p.Slots = 256 }, true},
		"Slots 257":                    {func(p *api.Prog) { p.Slots = 257 }, false},
		"Slots 1":                      {func(p *api.Prog) { p.Slots = 1 }, false},
		"a name of 13 bytes":           {func(p *api.Prog) { p.Arrays[1].Name += "x" }, false},
		"no name":                      {func(p *api.Prog) { p.Arrays[1].Name = "" }, false},
		"a name with a blank":          {func(p *api.Prog) { p.Arrays[1].Name = "a b" }, false},
		"equal names":                  {func(p *api.Prog) { p.Arrays[1].Name = "a" }, true},
		"Space 4":                      {func(p *api.Prog) { p.Arrays[1].Space = 4 }, false},
		"Type 0":                       {func(p *api.Prog) { p.Arrays[1].Type = 0 }, false},
		"Len 4097":                     {func(p *api.Prog) { p.Arrays[1].Len = 4097 }, false},
		"eight arrays":                 {func(p *api.Prog) { p.Arrays = append(p.Arrays, slices.Repeat(p.Arrays[:1], 5)...) }, true},
		"nine arrays":                  {func(p *api.Prog) { p.Arrays = slices.Repeat(p.Arrays, 3) }, false},
		"an array less":                {func(p *api.Prog) { p.Arrays = p.Arrays[:2] }, false},
		"a private array":              {func(p *api.Prog) { p.Arrays[0].Space = api.Private }, false},
		"no operations":                {func(p *api.Prog) { p.P, p.Maps = nil, nil }, false},
		"no exit":                      {func(p *api.Prog) { p.P = p.P[:len(p.P)-1] }, false},
		"two exits":                    {func(p *api.Prog) { p.P = append(p.P, exit()) }, true},
		"a VHere at the end":           {func(p *api.Prog) { p.P = append(p.P, here(0)) }, false},
		"a VBlock at the end":          {func(p *api.Prog) { p.P = append(p.P, to(api.VBlock, 37)) }, false},
		"a VBlock that does not end":   {func(p *api.Prog) { p.P = append(p.P, to(api.VBlock, 37), exit()) }, false},
		"a VEnd more":                  {func(p *api.Prog) { p.P = append(p.P, to(api.VEnd, 28), exit()) }, false},
		"a VElse more":                 {func(p *api.Prog) { p.P = append(p.P, to(api.VElse, 37), exit()) }, false},
		"a VElse of a VBlock":          {func(p *api.Prog) { p.P[20] = to(api.VElse, 7) }, false},
		"a VBlock without an end":      {func(p *api.Prog) { p.P[20] = here(7) }, false},
		"a VIf without a VElse":        {func(p *api.Prog) { p.P[11].At = 18; p.P[15] = here(0) }, false},
		"a VIf without a VEnd":         {func(p *api.Prog) { p.P[18] = here(0) }, false},
		"a VEnd of another one":        {func(p *api.Prog) { p.P[20].At = 6 }, false},
		"a VEnd of a VElse":            {func(p *api.Prog) { p.P[18].At = 15 }, false},
		"a VElse of another one":       {func(p *api.Prog) { p.P[15].At = 20 }, false},
		"a VIf to its VEnd":            {func(p *api.Prog) { p.P[11].At = 18 }, false},
		"a VElse behind a VElse":       {func(p *api.Prog) { p.P[16] = to(api.VElse, 18) }, false},
		"a VBlock to another VEnd":     {func(p *api.Prog) { p.P[7].At = 18 }, false},
		"crossing ends":                {func(p *api.Prog) { p.P[6].At, p.P[7].At, p.P[20].At, p.P[25].At = 20, 25, 6, 7 }, false},
		"a VLoop as a VBlock":          {func(p *api.Prog) { p.P[6].Kind = api.VBlock }, true},
		"a VBreak from further within": {func(p *api.Prog) { p.P[17].At = 6 }, true},
		"a VBreak to a VIf":            {func(p *api.Prog) { p.P[17].At = 11 }, false},
		"a VBreak to a VElse":          {func(p *api.Prog) { p.P[17].At = 15 }, false},
		"a VBreak to a VEnd":           {func(p *api.Prog) { p.P[17].At = 20 }, false},
		"a VBreak to itself":           {func(p *api.Prog) { p.P[17].At = 17 }, false},
		"a VBreak to a VHere":          {func(p *api.Prog) { p.P[17].At = 24 }, false},
		"a VBreak to -1":               {func(p *api.Prog) { p.P[17].At = -1 }, false},
		"a VBreak to the end":          {func(p *api.Prog) { p.P[17].At = 36 }, false},
		"a VBreak behind its VEnd":     {func(p *api.Prog) { p.P[24] = to(api.VBreak, 7) }, false},
		"a VBreak in the outer one":    {func(p *api.Prog) { p.P[24] = to(api.VBreak, 6) }, true},
		"a VBreak outside":             {func(p *api.Prog) { p.P[27] = to(api.VBreak, 6) }, false},
		"a VBreak before its VLoop":    {func(p *api.Prog) { p.P[5] = to(api.VBreak, 6) }, false},
		"Block 400 of a VDo":           {func(p *api.Prog) { p.P[0].Block = 400 }, false},
		"Block 399 of a VMark":         {func(p *api.Prog) { p.P[5].Block = 399 }, true},
		"Block 400 of a VMark":         {func(p *api.Prog) { p.P[5].Block = 400 }, false},
		"Block -1 of a VHere":          {func(p *api.Prog) { p.P[24].Block = -1 }, false},
		"Block 400 of a VIf":           {func(p *api.Prog) { p.P[11].Block = 400 }, false},
		"Block 400 of a VSync":         {func(p *api.Prog) { p.P[26].Block = 400 }, false},
		"Block of a VLoop":             {func(p *api.Prog) { p.P[6].Block = 1 }, false},
		"Block of a VElse":             {func(p *api.Prog) { p.P[15].Block = 1 }, false},
		"Block of a VEnd":              {func(p *api.Prog) { p.P[18].Block = 1 }, false},
		"Block of a VBreak":            {func(p *api.Prog) { p.P[14].Block = 1 }, false},
		"Block of a VExit":             {func(p *api.Prog) { p.P[27].Block = 1 }, false},
		"At of a VExit":                {func(p *api.Prog) { p.P[27].At = 1 }, false},
		"At of a VSync":                {func(p *api.Prog) { p.P[26].At = 1 }, false},
		"At of a VDo":                  {func(p *api.Prog) { p.P[0].At = 1 }, false},
		"At of a VMark":                {func(p *api.Prog) { p.P[5].At = 1 }, false},
		"At of a VHere":                {func(p *api.Prog) { p.P[24].At = 1 }, false},
		"Scalar of a VIf":              {func(p *api.Prog) { p.P[31].Scalar = true }, false},
		"Scalar of a VSync":            {func(p *api.Prog) { p.P[26].Scalar = true }, false},
		"Scalar of a VStore":           {func(p *api.Prog) { p.P[13].Scalar = true }, false},
		"I of a VMark":                 {func(p *api.Prog) { p.P[5].I.Op = api.IFence }, false},
		"I of a VIf":                   {func(p *api.Prog) { p.P[11].I.N = 1 }, false},
		"T of a VDo":                   {func(p *api.Prog) { p.P[0].T.Kind = api.TBarrier }, false},
		"T of a VExit":                 {func(p *api.Prog) { p.P[27].T.Kind = api.TExit }, false},
		"a jump in a VIf":              {func(p *api.Prog) { p.P[11].T.Kind = api.TJump }, false},
		"To of a VIf":                  {func(p *api.Prog) { p.P[11].T.To[1] = 1 }, false},
		"Sub of a VIf":                 {func(p *api.Prog) { p.P[11].T.Sub = 1 }, false},
		"D of a VIf":                   {func(p *api.Prog) { p.P[11].T.D = reg(0) }, false},
		"B of a VIf":                   {func(p *api.Prog) { p.P[11].T.B = num(0) }, false},
		"no A of a VIf":                {func(p *api.Prog) { p.P[11].T.A = api.Opd{} }, false},
		"a VIf of r4":                  {func(p *api.Prog) { p.P[11].T.A = reg(4) }, false},
		"a VIf of s3":                  {func(p *api.Prog) { p.P[11].T.A = scalar(3) }, false},
		"a branch in a VSync":          {func(p *api.Prog) { p.P[26].T = api.Term{Kind: api.TBranch, A: num(0)} }, false},
		"an exit in a VSync":           {func(p *api.Prog) { p.P[26].T.Kind = api.TExit }, false},
		"no T of a VSync":              {func(p *api.Prog) { p.P[26].T = api.Term{} }, false},
		"Sub of a barrier":             {func(p *api.Prog) { p.P[26].T.Sub = 1 }, false},
		"A of a barrier":               {func(p *api.Prog) { p.P[26].T.A = num(0) }, false},
		"To of a barrier":              {func(p *api.Prog) { p.P[26].T.To[0] = 1 }, false},
		"To of a collect":              {func(p *api.Prog) { p.P[23].T.To[0] = 1 }, false},
		"Sub 0 of a collect":           {func(p *api.Prog) { p.P[23].T.Sub = 0 }, false},
		"Sub 1 of a collect":           {func(p *api.Prog) { p.P[23].T.Sub = 1 }, true},
		"Sub 7 of a collect":           {func(p *api.Prog) { p.P[23].T.Sub = 7 }, false},
		"a scalar D of a collect":      {func(p *api.Prog) { p.P[23].T.D = scalar(0) }, false},
		"a constant D of a collect":    {func(p *api.Prog) { p.P[23].T.D = num(0) }, false},
		"no D of a collect":            {func(p *api.Prog) { p.P[23].T.D = api.Opd{} }, false},
		"D r4 of a collect":            {func(p *api.Prog) { p.P[23].T.D = reg(4) }, false},
		"no A of a collect":            {func(p *api.Prog) { p.P[23].T.A = api.Opd{} }, false},
		"no B of a collect":            {func(p *api.Prog) { p.P[23].T.B = api.Opd{} }, false},
		"B s3 of a collect":            {func(p *api.Prog) { p.P[23].T.B = scalar(3) }, false},
		"a constant with N":            {func(p *api.Prog) { p.P[23].T.B.N = 1 }, false},
		"a register with V":            {func(p *api.Prog) { p.P[23].T.D.V = 1 }, false},
		"Kind 0":                       {func(p *api.Prog) { p.P[24] = api.Op{} }, false},
		"Kind 12":                      {func(p *api.Prog) { p.P[24].Kind = 12 }, false},
		"Kind -1":                      {func(p *api.Prog) { p.P[24].Kind = -1 }, false},
		"Pc 36 of a map":               {func(p *api.Prog) { p.Maps[0].Pc = 36 }, false},
		"Pc 35 of a map":               {func(p *api.Prog) { p.Maps[0].Pc = 35 }, true},
		"Pc -1 of a map":               {func(p *api.Prog) { p.Maps[0].Pc = -1 }, false},
		"AtExit of a map":              {func(p *api.Prog) { p.Maps[0].At = api.AtExit }, false},
		"At 0 of a map":                {func(p *api.Prog) { p.Maps[4].At = 0 }, false},
		"AtEnd of a VDo":               {func(p *api.Prog) { p.Maps[0].At = api.AtEnd }, false},
		"AtEnd of another block":       {func(p *api.Prog) { p.Maps[4].Block = 5 }, false},
		"AtBlock of another block":     {func(p *api.Prog) { p.Maps[0].Block = 5 }, true},
		"Block 400 of a map":           {func(p *api.Prog) { p.Maps[0].Block = 400 }, false},
		"Block -1 of a map":            {func(p *api.Prog) { p.Maps[0].Block = -1 }, false},
		"maps in another order":        {func(p *api.Prog) { slices.Reverse(p.Maps) }, true},
		"a map twice":                  {func(p *api.Prog) { p.Maps = slices.Repeat(p.Maps, 2) }, true},
		"no maps":                      {func(p *api.Prog) { p.Maps = nil }, true},
		"registers in another order":   {func(p *api.Prog) { slices.Reverse(p.Maps[1].Loc) }, false},
		"a register twice":             {func(p *api.Prog) { p.Maps[1].Loc[1].Reg = 0 }, false},
		"register 256":                 {func(p *api.Prog) { p.Maps[1].Loc[2].Reg = 256 }, false},
		"register -1":                  {func(p *api.Prog) { p.Maps[1].Loc[0].Reg = -1 }, false},
		"place r4":                     {func(p *api.Prog) { p.Maps[1].Loc[0].N = 4 }, false},
		"place r-1":                    {func(p *api.Prog) { p.Maps[1].Loc[0].N = -1 }, false},
		"slot 2":                       {func(p *api.Prog) { p.Maps[1].Loc[1].N = 2 }, false},
		"slot -1":                      {func(p *api.Prog) { p.Maps[1].Loc[1].N = -1 }, false},
		"place s3":                     {func(p *api.Prog) { p.Maps[1].Loc[2].N = 3 }, false},
		"place s-1":                    {func(p *api.Prog) { p.Maps[1].Loc[2].N = -1 }, false},
		"a constant as a place":        {func(p *api.Prog) { p.Maps[1].Loc[0] = api.Loc{Kind: api.OConst} }, false},
		"no place":                     {func(p *api.Prog) { p.Maps[1].Loc[0] = api.Loc{} }, false},
		"place 5":                      {func(p *api.Prog) { p.Maps[1].Loc[0].Kind = 5 }, false},
		"equal places":                 {func(p *api.Prog) { p.Maps[1].Loc[1] = api.Loc{Reg: 7, Kind: api.OReg, N: 3} }, true},
	} {
		p := every()
		x.change(&p)
		if compare(t, p) != x.want {
			t.Errorf("not %t with %s", x.want, what)
		}
	}
}

// P19.1: the least programs.
func TestLeast(t *testing.T) {
	p := api.Prog{Group: 1, Sub: 1, P: []api.Op{exit()}}
	if !compare(t, p) || text(t, p) != "0: exit\n" || len(encoded(t, p)) != 40 {
		t.Errorf("%q, %d bytes", text(t, p), len(encoded(t, p)))
	}
	p.P = nil
	if compare(t, p) || compare(t, api.Prog{}) || compare(t, api.Prog{P: []api.Op{exit()}}) {
		t.Error("valid")
	}
	if _, e := encode.Decode(nil); e != api.ErrForm {
		t.Errorf("%d for no bytes", e)
	}
}

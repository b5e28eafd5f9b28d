package code_test

import (
	"math/rand"
	"slices"
	"strings"
	"testing"

	"warpwright/api"
	"warpwright/code"
)

// P5.1, for E5: the chapter's example.
func TestExampleOfText(t *testing.T) {
	c := api.Code{Group: 4, Sub: 2, Regs: 2,
		Arrays: []api.Array{{Name: "a", Space: api.Global, Type: api.TInt, Len: 8}},
		B:      []api.Block{{I: []api.Inst{{Op: api.IId, Sub: api.IdItem, D: reg(0)}, {Op: api.IStore, A: reg(0), B: num(7)}}, T: exit()}}}
	s := "code 4 2 2 0 0\narray a 1 1 8\nblock\nid 1 r0\nstore 0 r0 7\nexit\n"
	if text(t, c) != s || !same(parse(t, s), c) {
		t.Errorf("%q, %+v", text(t, c), parse(t, s))
	}
}

// P5.1, for E5: all lines.
func TestLines(t *testing.T) {
	want := "code 24 8 5 3 2\narray a 1 1 8\narray Zz09 2 2 1\narray a 3 3 4096\nloop 0 0 1\nloop 6 4 1024\nloop 0 0 1\n" +
		"block\nmov r0 -7\nun 1 r4 r3\nbin 10 r3 r4 r2\nsel r1 r4 r0 r2\nsel r1 0 -2147483648 2147483647\nid 1 r2\nparam 1 r3\njump 1\n" +
		"block\nload 2 r0 r1\nstore 0 r4 9\nstore 2 0 r0\natom 22 1 r0 r0\nfence 1\nget 2 r4\nput 0 r1\nput 2 -1\nbranch r4 6 0\n" +
		"block\nbranch 0 3 3\nblock\nbarrier 4\nblock\ncollect 1 r1 r3 r2 5\nblock\ncollect 6 r4 3 0 0\nblock\nexit\n"
	if s := text(t, every()); s != want {
		t.Errorf("%s", s)
	}
	if c := parse(t, want); !same(c, every()) {
		t.Errorf("%+v", c)
	}
	if s := text(t, small()); s != "code 1 1 0 0 0\nblock\nexit\n" {
		t.Errorf("%s", s)
	}
}

// P5.1, for E5, and P5.2.
func TestParseInvertsText(t *testing.T) {
	g := newGrammar()
	texts := map[string]int64{}
	for seed := range int64(1500) {
		c := someCode(seed)
		s := text(t, c)
		if want := wantText(c); s != want {
			t.Fatalf("Text(%+v) = %q, not %q", c, s, want)
		}
		if d := parse(t, s); !same(c, d) {
			t.Fatalf("Parse(%q) = %+v, not %+v", s, d, c)
		}
		if d, ok := g.wantParse(s); !ok || !same(c, d) {
			t.Fatalf("the grammar has another code of %q: %+v", s, d)
		}
		if old, ok := texts[s]; ok && !same(someCode(old), c) {
			t.Fatalf("two codes have the text %q", s)
		}
		texts[s] = seed
	}
}

// checkText compares Parse with the grammar.
func checkText(t *testing.T, g grammar, s string) bool {
	t.Helper()
	want, ok := g.wantParse(s)
	if !ok {
		refusedText(t, s, api.ErrForm)
		return false
	}
	c := parse(t, s)
	if !same(c, want) || text(t, c) != s {
		t.Fatalf("Parse(%q) = %+v, not %+v", s, c, want)
	}
	return true
}

// pieces are what can stand in a field, and what resembles it.
func pieces() []string {
	return strings.Split("0 1 2 3 4 5 7 10 32 -1 -0 00 01 -01 +1 +0 1. 1e1 0x1 1_0 256 257 400 401 1024 1025 4096 4097 2147483647 2147483648 -2147483648 -2147483649 4294967296 9223372036854775807 9223372036854775808 -9223372036854775809 18446744073709551616 99999999999999999999999999"+
		" r0 r1 r2 r4 r5 r00 r01 r-0 r-1 r+1 r r255 r256 r4294967296 r18446744073709551616 rr1 R1 s1 a Zz09 a_ é abcdefghijkl abcdefghijklm"+
		" code array loop block mov un bin sel id param load store atom fence get put jump branch barrier collect exit Mov blocks end"+
		" \t1 1\t 1\r \r \v \x00 \xff ٣ １ - + . , ;", " ")
}

// changedLine changes, adds or removes a field.
func changedLine(r *rand.Rand, line string) string {
	fields := strings.Split(line, " ")
	i := r.Intn(len(fields))
	switch r.Intn(5) {
	case 0:
		fields = slices.Delete(fields, i, i+1)
	case 1:
		fields = slices.Insert(fields, i+r.Intn(2), pick(r, pieces()...))
	case 2:
		fields[i] = pick(r, "", fields[i]+" ", " "+fields[i], fields[i]+"\t", "0"+fields[i], "-"+fields[i], "+"+fields[i], fields[i]+"0", "r"+fields[i])
	default:
		fields[i] = pick(r, pieces()...)
	}
	return strings.Join(fields, " ")
}

// changedText changes lines of a text, or their order.
func changedText(r *rand.Rand, s string) string {
	lines := strings.SplitAfter(s, "\n")
	lines = lines[:len(lines)-1]
	i, k := r.Intn(len(lines)), r.Intn(len(lines))
	switch r.Intn(7) {
	case 0:
		lines = slices.Delete(lines, i, i+1)
	case 1:
		lines = slices.Insert(lines, i, lines[k])
	case 2:
		lines[i], lines[k] = lines[k], lines[i]
	case 3:
		lines = slices.Insert(lines, i, pick(r, "\n", " \n", "exit\n", "block\n", "block\nexit\n", "fence 1\n", "array b 1 1 1\n", "loop 0 0 1\n", "jump 0\n", "code 1 1 0 0 0\n", "#\n", "\r\n"))
	default:
		lines[i] = changedLine(r, strings.TrimSuffix(lines[i], "\n")) + "\n"
	}
	return strings.Join(lines, "")
}

// P5.2 and P5.5, for lines: a text that is changed is that of another code, or none.
func TestChangedLines(t *testing.T) {
	g := newGrammar()
	whole, none := 0, 0
	for seed := range int64(400) {
		r := newRand(seed)
		c := someCode(seed % 50)
		if seed%2 == 0 {
			c = every()
		}
		s := text(t, c)
		for range 40 {
			changed := changedText(r, s)
			if !checkText(t, g, changed) {
				none++
				continue
			}
			whole++
			if changed != s && same(parse(t, changed), c) {
				t.Fatalf("the text %q is that of the same code", changed)
			}
		}
	}
	if whole < 500 || none < 5000 {
		t.Errorf("%d texts, and %d that are none", whole, none)
	}
}

// P5.2: each byte is changed, removed, doubled, and each text ends too early.
func TestChangedBytes(t *testing.T) {
	g := newGrammar()
	for _, s := range []string{text(t, every()), text(t, host()), text(t, small()), text(t, someCode(3))} {
		for i := range len(s) {
			checkText(t, g, s[:i])
			checkText(t, g, s[i:])
			checkText(t, g, s[:i]+s[i+1:])
			checkText(t, g, s[:i]+s[i:i+1]+s[i:])
			for _, b := range " \n\t\r0159-+rRabz_.\x00" {
				checkText(t, g, s[:i]+string(b)+s[i:])
				checkText(t, g, s[:i]+string(b)+s[i+1:])
			}
		}
	}
}

// P5.2 and P5.5: texts that are none.
func TestTextsOfNoCode(t *testing.T) {
	for _, s := range []string{
		"", "\n", "\n\n", " ", "code", "code\n", "block", "block\n", "exit\n", "block\nexit\n", "mov r0 1\n", "array a 1 1 1\n", "loop 0 0 1\n", "jump 0\n",
		"code 1 1 0 0 0\n", "code 1 1 0 0 0\nblock\n", "code 1 1 0 0 0\nexit\n", "code 1 1 0 0 0\nblock\nexit", "code 1 1 0 0 0\nblock\nexit\n\n", "\ncode 1 1 0 0 0\nblock\nexit\n",
		"code 1 1 0 0 0\n\nblock\nexit\n", "code 1 1 0 0 0\nblock\n\nexit\n", "code 1 1 0 0 0\r\nblock\r\nexit\r\n", "code 1 1 0 0 0\nblock\nexit \n", "code 1 1 0 0 0\nblock\n exit\n", "code 1 1 0 0 0\nblock 0\nexit\n",
		"code 1 1 0 0\nblock\nexit\n", "code 1 1 0 0 0 0\nblock\nexit\n", "code  1 1 0 0 0\nblock\nexit\n", "Code 1 1 0 0 0\nblock\nexit\n", "code 1 1 0 0 00\nblock\nexit\n", "code 1 1 0 0 -0\nblock\nexit\n", "code +1 1 0 0 0\nblock\nexit\n",
		"code 0 1 0 0 0\nblock\nexit\n", "code 1 2 0 0 0\nblock\nexit\n", "code 1 1 -1 0 0\nblock\nexit\n", "code 1 1 257 0 0\nblock\nexit\n", "code 1 1 0 0 9\nblock\nexit\n", "code 1 1 18446744073709551616 0 0\nblock\nexit\n",
		"code 1 1 0 0 0\ncode 1 1 0 0 0\nblock\nexit\n", "block\nexit\ncode 1 1 0 0 0\n", "code 1 1 0 0 0\nblock\nexit\nexit\n", "code 1 1 0 0 0\nblock\nexit\nfence 1\n", "code 1 1 0 0 0\nfence 1\nblock\nexit\n", "code 1 1 0 0 0\nblock\nexit\nblock\n", "code 1 1 0 0 0\nblock\nblock\nexit\n",
		"code 1 1 0 0 0\nblock\nexit\narray a 1 1 1\n", "code 1 1 0 0 0\nblock\narray a 1 1 1\nexit\n", "code 1 1 1 0 0\nloop 0 0 1\narray a 1 1 1\nblock\nexit\n", "code 1 1 0 0 0\narray 1 1 1\nblock\nexit\n", "code 1 1 0 0 0\narray  1 1 1\nblock\nexit\n", "code 1 1 0 0 0\narray a b 1 1 1\nblock\nexit\n",
		"code 1 1 0 0 0\nblock\njump 1\n", "code 1 1 0 0 0\nblock\njump -1\n", "code 1 1 0 0 0\nblock\njump r0\n", "code 1 1 0 0 0\nblock\njump\n", "code 1 1 0 0 0\nblock\njump 0 0\n", "code 1 1 0 0 0\nblock\nbranch 0 0\n", "code 1 1 0 0 0\nblock\nexit 0\n", "code 1 1 0 0 0\nblock\nhalt\n",
		"code 1 1 1 0 0\nblock\nmov r1 0\nexit\n", "code 1 1 1 0 0\nblock\nmov r0 r1\nexit\n", "code 1 1 1 0 0\nblock\nmov 0 r0\nexit\n", "code 1 1 1 0 0\nblock\nmov r0\nexit\n", "code 1 1 1 0 0\nblock\nmov r00 0\nexit\n", "code 1 1 1 0 0\nblock\nmov r0 2147483648\nexit\n", "code 1 1 1 0 0\nblock\nmov r0 4294967296\nexit\n", "code 1 1 1 0 0\nblock\nmov r0 -2147483649\nexit\n", "code 1 1 1 0 0\nblock\nmov r0 1 1\nexit\n", "code 1 1 1 0 0\nblock\nmov r0 1 \nexit\n", "code 1 1 1 0 0\nblock\nmov\tr0\t1\nexit\n",
	} {
		refusedText(t, s, api.ErrForm)
	}
	for _, s := range []string{"code 1 1 0 0 0\nblock\nexit\n", "code 1 1 1 0 0\nblock\nmov r0 2147483647\nexit\n", "code 1 1 1 0 0\nblock\nmov r0 -2147483648\nexit\n", "code 1 1 0 0 0\nblock\njump 0\n", "code 256 32 256 256 8\nblock\nfence 2\nbranch -1 0 0\n"} {
		if text(t, parse(t, s)) != s {
			t.Errorf("%q is read as %+v", s, parse(t, s))
		}
	}
}

// P5.1, for E5, and P5.6: codes at the limits have texts; texts of codes beyond them are none.
func TestTextsAtTheLimits(t *testing.T) {
	c := full()
	s := text(t, c)
	if s != wantText(c) || !same(parse(t, s), c) || len(s) > 1<<18 {
		t.Errorf("a text of %d bytes", len(s))
	}
	for _, exceed := range beyond() {
		c := full()
		exceed(&c)
		s, want := wantText(c), api.ErrForm
		if len(s) > 1<<18 {
			want = api.ErrBig
		}
		refusedText(t, s, want)
	}
}

// P5.1, for E5: the length of a text.
func TestLengthsOfTexts(t *testing.T) {
	head := "code 1 1 0 0 0\nblock\nexit\n"
	for n := 1<<18 - 2; n <= 1<<18+2; n++ {
		want := api.ErrForm
		if n > 1<<18 {
			want = api.ErrBig
		}
		for _, piece := range []string{"x", " ", "\n", "block\nexit\n", "block\n", "fence 1\n", "array a 1 1 1\n", "\x00", "r"} {
			refusedText(t, (head + strings.Repeat(piece, n))[:n], want)
			refusedText(t, strings.Repeat(piece, n)[:n], want)
		}
	}
	refusedText(t, head+strings.Repeat("y", 1<<21), api.ErrBig)
}

// P5.1, for E5: the code of a text has no memory of others.
func TestParsedCodesAreNew(t *testing.T) {
	s := text(t, every())
	first, second := parse(t, s), parse(t, s)
	for b := range first.B {
		first.B[b].T = api.Term{}
		clear(first.B[b].I)
		_ = append(first.B[b].I, api.Inst{Op: 99})
	}
	clear(first.Arrays)
	clear(first.Loops)
	if !same(second, every()) || !same(parse(t, s), every()) {
		t.Error("a code was changed, and with it others")
	}
}

// P5.2: different codes have different texts.
func TestTextsDiffer(t *testing.T) {
	c := every()
	s := text(t, c)
	for i, change := range []func(c *api.Code){
		func(c *api.Code) { c.Group = 16 },
		func(c *api.Code) { c.Sub = 4 },
		func(c *api.Code) { c.Regs++ },
		func(c *api.Code) { c.Slots++ },
		func(c *api.Code) { c.Params++ },
		func(c *api.Code) { c.Arrays[2].Name = "b" },
		func(c *api.Code) { c.Arrays[0].Space = api.Shared },
		func(c *api.Code) { c.Arrays[0].Type = api.TBool },
		func(c *api.Code) { c.Arrays[0].Len++ },
		func(c *api.Code) { c.Arrays = append(c.Arrays, c.Arrays[0]) },
		func(c *api.Code) { c.Loops[1].Head = 5 },
		func(c *api.Code) { c.Loops[1].Reg = 3 },
		func(c *api.Code) { c.Loops[1].Bound = 1023 },
		func(c *api.Code) { c.Loops = c.Loops[:2] },
		func(c *api.Code) { c.B[0].I[0].A = reg(0) },
		func(c *api.Code) { c.B[1].I[7].A = num(1) },
		func(c *api.Code) { c.B[1].T.To = [2]int{0, 6} },
		func(c *api.Code) { c.B[0].I = c.B[0].I[:6] },
		func(c *api.Code) { c.B = append(c.B, api.Block{T: exit()}) },
		func(c *api.Code) { c.B[0].I, c.B[1].I = c.B[1].I, c.B[0].I },
		func(c *api.Code) {
			c.B[1].I, c.B[0].I = append(slices.Clone(c.B[0].I), c.B[1].I...), nil
		},
	} {
		d := clone(c)
		change(&d)
		if other := text(t, d); other == s || !same(parse(t, other), d) || same(c, d) {
			t.Errorf("change %d: %s", i, other)
		}
	}
}

// P5.4 and P5.2: what a line names is what its instruction uses and defines.
func TestLinesNameRegisters(t *testing.T) {
	c := parse(t, "code 1 1 6 0 0\nblock\nbin 10 r3 r5 r2\nexit\n")
	i := c.B[0].I[0]
	if !slices.Equal(code.Uses(i), []int{2, 5}) || code.Def(i) != 3 {
		t.Errorf("%+v uses %v, and defines %d", i, code.Uses(i), code.Def(i))
	}
}

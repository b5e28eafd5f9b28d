package syntax

import (
	"math/rand"
	"strings"
	"testing"

	"warpwright/api"
)

func newRand(seed int64) *rand.Rand {
	return rand.New(rand.NewSource(seed))
}

// checkText compares Parse with the grammar, from a beginning b of s, which has n bytes, on.
func checkText(t *testing.T, b beginning, n int, s string) {
	t.Helper()
	b, want := b.read(s, n)
	k, at, e := Parse(s)
	switch {
	case b.whole():
		if at != 0 || e != api.OK && e != api.ErrBig || Valid(k) != (e == api.OK) {
			t.Fatalf("Parse of the text %q: %d, %d", s, at, e)
		}
	case at != want || e != api.ErrSyntax || !same(k, api.Kernel{}):
		t.Fatalf("Parse(%q) = %+v, %d, %d, not %d", s, k, at, e, want)
	}
}

// pieces are tokens, and what resembles them.
func pieces() []string {
	list := strings.Fields(keywords + " k item x9 aBc A Kernel If abcdefghijkl abcdefghijklm kernels group4 1x _ a_b x.y" +
		" @item @local @group @items @size @lane @sub @foo @ite @items1 @ @@item @1 @int @true" +
		" 0 1 64 00 01 -0 -1 -01 - -- +1 0x1 1e5 1_0 2147483647 2147483648 -2147483648 -2147483649 9223372036854775807 9223372036854775808 -9223372036854775808 -9223372036854775809 18446744073709551617" +
		" 0.0 1.5 -1.5 1.50 -0.0 0.1 1. .5 . -. 1..5 1.5.5 01.5 32767.0 32768.0 -32768.0 -32768.5" +
		" + * / % *. /. & | ^ << >> == != < <= > >= = ! ~ ** *.. // <> <<= === =! =- ( ) { } [ ] , ? : ; :: () [] {} # $ \" ' ` \\")
	list = append(list, "", "- 1", "-\n1", "@ item", "x y", "1 1", "\r", "\v", "\f", "\x00", "\x7f", "\x80", "\xff", "\u00a0", "\u00e9", "\u0661", "\u2028", "\ufeff")
	return list
}

// P2.1, for B3, and P2.4: all tokens after all beginnings of a text.
func TestAllTokensAfterAllBeginnings(t *testing.T) {
	b, s := start(), ""
	for _, token := range append(tokens(sample), "") {
		for _, p := range pieces() {
			checkText(t, b, len(s), s+p)
			checkText(t, b, len(s), s+p+" ")
			checkText(t, b, len(s), s+p+token+" ) } 1")
		}
		b = b.after(token)
		s += token + " "
	}
}

// P2.1, for B3: every byte is wrong where none of the tokens begins with it.
func TestAllBytes(t *testing.T) {
	b, s := start(), ""
	for _, token := range append(tokens(sample), "") {
		for c := range 256 {
			checkText(t, b, len(s), s+string([]byte{byte(c)}))
		}
		b = b.after(token)
		s += token + "\n"
	}
}

// P2.1, for B3, and P2.4: texts near others.
func TestTextsNearOthers(t *testing.T) {
	list := pieces()
	first := start()
	for seed := range int64(many / 8) {
		r := newRand(seed)
		s := textOf(make1(seed))
		for range 10 {
			all := strings.Fields(s)
			i := r.Intn(len(all))
			switch r.Intn(4) {
			case 0:
				all = append(all[:i:i], all[i+1:]...)
			case 1:
				all[i] = list[r.Intn(len(list))]
			case 2:
				all = append(all[:i:i], append([]string{list[r.Intn(len(list))]}, all[i:]...)...)
			case 3:
				j := r.Intn(len(all))
				all[i], all[j] = all[j], all[i]
			}
			checkText(t, first, 0, strings.Join(all, " "))
			i = r.Intn(len(s))
			checkText(t, first, 0, s[:i]+s[i+1:])
			checkText(t, first, 0, s[:i]+list[r.Intn(len(list))]+s[i:])
			checkText(t, first, 0, s[i:])
		}
	}
}

// P2.4: what stands ahead of the offset is a whole text, or ends too early.
func TestTextAheadOfAnError(t *testing.T) {
	list := pieces()
	for seed := range int64(many) {
		r := newRand(seed)
		s := textOf(make1(seed))
		for range 10 {
			i := r.Intn(len(s) + 1)
			text := s[:i] + list[r.Intn(len(list))] + s[i:]
			_, at, e := Parse(text)
			if e != api.ErrSyntax {
				continue
			}
			if _, end, e := Parse(text[:at]); e == api.ErrSyntax && end != at {
				t.Fatalf("the text %q ahead of the offset %d is wrong at %d", text[:at], at, end)
			}
		}
	}
}

// P2.5.
func TestTruncation(t *testing.T) {
	for seed := range int64(many / 20) {
		s := strings.TrimSuffix(textOf(make1(seed)), "\n")
		for i := range len(s) {
			k, at, e := Parse(s[:i])
			if e != api.ErrSyntax || at > i || !same(k, api.Kernel{}) {
				t.Fatalf("Parse(%q) = %+v, %d, %d", s[:i], k, at, e)
			}
		}
		if _, at, e := Parse(s); at != 0 || e != api.OK {
			t.Fatalf("Parse(%q): %d, %d", s, at, e)
		}
	}
}

// P2.1, for B3: the offsets of the chapter's examples, and of others.
func TestOffsets(t *testing.T) {
	head := "kernel k group 4 sub 2 { " // 25 bytes
	for s, want := range map[string]int{
		head + "x = (1 +) }": 33, head + "x = (1) }": 31, "kernel k group 04": 15,
		"": 0, " \n\t": 3, "\r": 0, "kernel k\n": 9, head + "x = (1 + 2": 35, head + "x = (1 + 2 ": 36,
		head + "x = @item2 }": 29, head + "x = 1x }": 32, head + "x = -x }": 29, head + "x = (1 -- 5) }": 33, head + "return -1 }": 32,
		head + "x = (1 ! 2) }": 32, head + "x = (1 *.. 2) }": 34, head + "x = 1.5.5 }": 32, head + "x = 1.-5 }": 30,
		head + "x = f( }": 32, head + "x = f(1 }": 33, head + "x = f(1, }": 34, head + "x = a[1, 2] }": 32,
		head + "x = min(1) }": 34, head + "x = min(1, 2, 3) }": 37, head + "x = neg() }": 33, head + "x = (1 ? 2) }": 35, head + "x = (1 ? 2 : 3 : 4) }": 40,
		head + "if x }": 30, head + "if x { } else if y { } }": 39, head + "while x most y { } }": 38, head + "while x most 1.0 { } }": 38,
		head + "x = 1 ; }": 31, head + "x = y = z }": 31, head + "x(1) }": 26, head + "var int int = 1 }": 29, head + "var x = 1 }": 31,
		head + "fence }": 31, head + "atomic a add 1 }": 34, head + "barrier ( }": 33, head + "x = shuffle(1, 2, 3) }": 41, head + "x = (1 + sum(2)) }": 34,
		head + "} }": 27, head + "} kernel": 27, head + "func f() int { return 1 } }": 25, head + "param n int }": 25, head + "true = 1 }": 25,
		"kernel k group 1 sub 1 global a int 1 shared 5": 45, "kernel k group 1 sub 1 param n int shared a int 1 {}": 35, "kernel k group 1 sub 1 func f() int { return 1 } param n int {}": 49,
		"kernel k group 1 sub 1 func f(int) int { return 1 } {}": 30, "kernel k group 1 sub 1 func f(x int,) int { return 1 } {}": 36, "kernel k group 1 sub 1 func f() { return 1 } {}": 32,
		"kernel k group 1 sub 1 func f() int { return } {}": 45, "kernel k group 1 sub 1 func f() int { return 1 x = 2 } {}": 47, "kernel k group 1 sub 1 func f() int { x = shuffle(1, 2) return 1 } {}": 42,
		"kernel k group 1 sub 1 func f() int { while x most 1 { x[1] = 2 } return 1 } {}": 56, "kernel k group 1 sub 1 func f() int { if x { } else { fence group } return 1 } {}": 54, "kernel k group 1 sub 1 func f() int { atomic a[0] add 1 return 1 } {}": 38,
	} {
		if k, at, e := Parse(s); at != want || e != api.ErrSyntax || !same(k, api.Kernel{}) {
			t.Errorf("Parse(%q): %d, %d, not %d", s, at, e, want)
		}
		if _, end := start().read(s, 0); end != want {
			t.Errorf("the grammar has the first wrong token of %q at %d, not %d", s, end, want)
		}
	}
}

// P2.1, for B3: what follows a function is not taken for a part of one.
func TestStatementsAfterFunctions(t *testing.T) {
	parse(t, "kernel k group 1 sub 1 func f() int { return 1 } { a[0] = 1 x = any(x) barrier return }")
}

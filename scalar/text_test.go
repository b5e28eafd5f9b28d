package scalar

import (
	"fmt"
	"math/big"
	"regexp"
	"strings"
	"testing"

	"warpwright/api"
)

// P1.1, for A4.
func TestExamplesOfTexts(t *testing.T) {
	for _, c := range []struct {
		t int
		v int32
		s string
	}{
		{api.TInt, 0, "0"}, {api.TInt, -1, "-1"}, {api.TInt, 10, "10"}, {api.TInt, most, "2147483647"}, {api.TInt, least, "-2147483648"},
		{api.TFix, 0, "0.0"}, {api.TFix, 65536, "1.0"}, {api.TFix, -65536, "-1.0"}, {api.TFix, 98304, "1.5"}, {api.TFix, -98304, "-1.5"}, {api.TFix, 655360, "10.0"},
		{api.TFix, 1, "0.0000152587890625"}, {api.TFix, -1, "-0.0000152587890625"}, {api.TFix, 4096, "0.0625"}, {api.TFix, most, "32767.9999847412109375"}, {api.TFix, least, "-32768.0"}, {api.TFix, least + 1, "-32767.9999847412109375"},
		{api.TBool, 0, "false"}, {api.TBool, 1, "true"},
	} {
		if s, e := Text(c.t, c.v); s != c.s || e != api.OK {
			t.Errorf("Text(%d, %d) = %q, %d, not %q", c.t, c.v, s, e, c.s)
		}
		if v, e := Parse(c.t, c.s); v != c.v || e != api.OK {
			t.Errorf("Parse(%d, %q) = %d, %d, not %d", c.t, c.s, v, e, c.v)
		}
	}
}

// P1.1, for A4.
func TestValuesWithoutTextAreRefused(t *testing.T) {
	for _, v := range []int32{-1, 2, 3, 256, 65536, most, least} {
		if s, e := Text(api.TBool, v); s != "" || e != api.ErrArg {
			t.Errorf("Text(TBool, %d) = %q, %d", v, s, e)
		}
	}
	for _, u := range strangers(api.TInt, api.TBool) {
		for v := int32(0); v <= 2; v++ {
			if s, e := Text(u, v); s != "" || e != api.ErrArg {
				t.Errorf("Text(%d, %d) = %q, %d", u, v, s, e)
			}
		}
		for _, s := range []string{"", "0", "1", "0.0", "1.5", "true", "?"} {
			if v, e := Parse(u, s); v != 0 || e != api.ErrArg {
				t.Errorf("Parse(%d, %q) = %d, %d", u, s, v, e)
			}
		}
	}
}

// refuse checks that s is the text of no value of the type u.
func refuse(t *testing.T, u int, s string) {
	t.Helper()
	if v, e := Parse(u, s); v != 0 || e != api.ErrForm {
		t.Errorf("Parse(%d, %.60q) = %d, %d", u, s, v, e)
	}
}

// P1.1, for A4.
func TestOtherTextsAreRefused(t *testing.T) {
	for _, s := range []string{"", "-", "--1", "-0", "00", "01", "-01", "+1", "1 ", " 1", "1\n", "1\x00", "1_0", "0x1", "1e3", "1.0", "1-", "2147483648", "-2147483649", "4294967296", "4294967297", "18446744073709551616", "18446744073709551617", "\u0661", "true", strings.Repeat("0", 1000) + "1", strings.Repeat("9", 1000000)} {
		refuse(t, api.TInt, s)
	}
	for _, s := range []string{"", ".", "-", "-.", "1", "1.", ".5", "-.5", "0.", "-0.0", "--1.0", "1.-5", "1.5-", "+1.5", "1.+5", "01.5", "00.0", "1.50", "1.00", "0.1", "0.3", "1.0000152587890624", "1.00001525878906250", "0.00000762939453125", "1..5", "1.5.0", "1,5", "1.5 ", " 1.5", "1.5e0", "0x1.8", "1._5", "1.\u0665", "32768.0", "-32768.5", "-32768.0000152587890625", "65536.0", "65537.5", "4294967296.0", "281474976710656.5", "281474976710657.0", "18446744073709551617.5", "true", strings.Repeat("0", 1000) + ".5", "0." + strings.Repeat("0", 1000), "0.5" + strings.Repeat("0", 1000000), strings.Repeat("9", 1000000) + ".5"} {
		refuse(t, api.TFix, s)
	}
	for _, s := range []string{"", "True", "FALSE", "tru", "truee", "true ", " false", "0", "1", "falsetrue", "\x00"} {
		refuse(t, api.TBool, s)
	}
}

func checkInverse(t *testing.T, u int, v int32) string {
	t.Helper()
	s, e := Text(u, v)
	w, f := Parse(u, s)
	if e != api.OK || f != api.OK || w != v {
		t.Errorf("Text(%d, %d) = %q, %d; Parse gives %d, %d", u, v, s, e, w, f)
	}
	return s
}

// P1.7.
func TestTextsOfAllFractions(t *testing.T) {
	for _, whole := range []int32{-32768, -32767, -2, -1, 0, 1, 9, 10, 32767} {
		for fraction := int32(0); fraction < one; fraction++ {
			v := whole*one + fraction
			s := checkInverse(t, api.TFix, v)
			if value, ok := new(big.Rat).SetString(s); !ok || value.Cmp(big.NewRat(int64(v), one)) != 0 || !fixForm.MatchString(s) {
				t.Fatalf("the text %q of %d", s, v)
			}
		}
	}
}

// P1.7.
func TestTextsOfIntegers(t *testing.T) {
	for _, v := range samples() {
		if s := checkInverse(t, api.TInt, v); s != fmt.Sprint(v) {
			t.Errorf("the text %q of %d", s, v)
		}
	}
	for v := int32(-2000); v <= 2000; v++ {
		checkInverse(t, api.TInt, v)
	}
}

var (
	intForm = regexp.MustCompile(`^(0|-?[1-9][0-9]*)$`)
	fixForm = regexp.MustCompile(`^-?(0|[1-9][0-9]*)\.(0|[0-9]*[1-9])$`)
)

// wantParse is the value times scale that s denotes; false if it is none of 32 bits, or s is not how it is written.
func wantParse(s string, form *regexp.Regexp, scale int64) (int32, bool) {
	if !form.MatchString(s) || s == "-0.0" {
		return 0, false
	}
	value, _ := new(big.Rat).SetString(s)
	value.Mul(value, big.NewRat(scale, 1))
	if !value.IsInt() || value.Cmp(big.NewRat(least, 1)) < 0 || value.Cmp(big.NewRat(most, 1)) > 0 {
		return 0, false
	}
	return int32(value.Num().Int64()), true
}

func checkParse(t *testing.T, s string) {
	t.Helper()
	for _, c := range []struct {
		u     int
		form  *regexp.Regexp
		scale int64
	}{{api.TInt, intForm, 1}, {api.TFix, fixForm, one}} {
		v, e := Parse(c.u, s)
		w, ok := wantParse(s, c.form, c.scale)
		f := api.ErrForm
		if ok {
			f = api.OK
		}
		if v != w || e != f {
			t.Fatalf("Parse(%d, %q) = %d, %d, not %d, %d", c.u, s, v, e, w, f)
		}
		if back, _ := Text(c.u, v); e == api.OK && back != s {
			t.Errorf("the text of Parse(%d, %q) = %d is %q", c.u, s, v, back)
		}
	}
}

// P1.1, for A4, and P1.7.
func TestAllShortTexts(t *testing.T) {
	const signs = "-+.01257 _e"
	texts := []string{""}
	for range 5 {
		var longer []string
		for _, s := range texts {
			checkParse(t, s)
			for _, c := range signs {
				longer = append(longer, s+string(c))
			}
		}
		texts = longer
	}
	for _, s := range texts {
		checkParse(t, s)
	}
}

// P1.1, for A4, and P1.7.
func TestTextsNearOthers(t *testing.T) {
	for _, v := range samples() {
		for u := api.TInt; u <= api.TFix; u++ {
			s, _ := Text(u, v)
			for i := range len(s) {
				checkParse(t, s[:i])
				checkParse(t, s[i:])
				checkParse(t, s[:i]+s[i+1:])
				for _, c := range "-.059 " {
					checkParse(t, s[:i]+string(c)+s[i:])
					checkParse(t, s[:i]+string(c)+s[i+1:])
				}
			}
			checkParse(t, s+"0")
			checkParse(t, s+"5")
		}
	}
}

package scalar

import (
	"strconv"
	"strings"

	"warpwright/api"
)

// maxDigits is how many digits a fraction has at most: each one takes away a factor of 2 of its denominator. Whole numbers have fewer.
const maxDigits = fixBits

// Text returns the text of a value: A4.
func Text(t int, v int32) (string, api.Errno) {
	switch t {
	case api.TInt:
		return strconv.Itoa(int(v)), api.OK
	case api.TFix:
		return fixText(v), api.OK
	case api.TBool:
		switch v {
		case 0:
			return "false", api.OK
		case 1:
			return "true", api.OK
		}
	}
	return "", api.ErrArg
}

func fixText(v int32) string {
	size := int64(v)
	var text []byte
	if size < 0 {
		size = -size
		text = append(text, '-')
	}
	text = strconv.AppendInt(text, size>>fixBits, 10)
	text = append(text, '.')
	rest := size & fixMask
	for range maxDigits {
		rest *= 10
		text = append(text, '0'+byte(rest>>fixBits))
		rest &= fixMask
		if rest == 0 {
			break
		}
	}
	return string(text)
}

// Parse returns the value whose text is s: A4.
func Parse(t int, s string) (int32, api.Errno) {
	var v int32
	var ok bool
	switch t {
	case api.TInt:
		v, ok = parseInt(s)
	case api.TFix:
		v, ok = parseFix(s)
	case api.TBool:
		v, ok = truth(s == "true"), true
	default:
		return 0, api.ErrArg
	}
	// The parsers read some texts that Text never writes, such as -0, and wrap around at numbers that are too large.
	if w, _ := Text(t, v); !ok || w != s {
		return 0, api.ErrForm
	}
	return v, api.OK
}

func parseInt(s string) (int32, bool) {
	digits, negative := strings.CutPrefix(s, "-")
	n, ok := parseDigits(digits)
	return signed(n, negative), ok
}

func parseFix(s string) (int32, bool) {
	digits, negative := strings.CutPrefix(s, "-")
	whole, fraction, point := strings.Cut(digits, ".")
	n, ok := parseDigits(whole)
	f, exact := parseFraction(fraction)
	return signed(n<<fixBits+f, negative), point && ok && exact
}

// parseFraction returns the fraction with the given digits after the point, times 2^16; false if that is not an integer.
func parseFraction(digits string) (int64, bool) {
	n, ok := parseDigits(digits)
	if !ok {
		return 0, false
	}
	// For k digits, n 2^16 / 10^k is n / 5^k times 2^(16-k), which does not leave 64 bits.
	for range len(digits) {
		if n%5 != 0 {
			return 0, false
		}
		n /= 5
	}
	return n << (fixBits - len(digits)), true
}

// parseDigits returns the number with the given digits; false if there are none, or more than any text has, or others than digits.
func parseDigits(digits string) (int64, bool) {
	if digits == "" || len(digits) > maxDigits {
		return 0, false
	}
	var n int64
	for i := range len(digits) {
		c := digits[i]
		if c < '0' || c > '9' {
			return 0, false
		}
		n = 10*n + int64(c-'0')
	}
	return n, true
}

func signed(n int64, negative bool) int32 {
	if negative {
		n = -n
	}
	return int32(n)
}

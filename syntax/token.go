package syntax

func isLetter(c byte) bool {
	return 'a' <= c && c <= 'z' || 'A' <= c && c <= 'Z'
}

func isDigit(c byte) bool {
	return '0' <= c && c <= '9'
}

func isSpace(c byte) bool {
	return c == ' ' || c == '\t' || c == '\n'
}

// skip returns the offset of the first byte of s from i on that is not of a kind; the length of s if there is none.
func skip(s string, i int, kind func(byte) bool) int {
	for i < len(s) && kind(s[i]) {
		i++
	}
	return i
}

// wordEnd returns where the word ends that begins at i.
func wordEnd(s string, i int) int {
	return skip(s, i, func(c byte) bool { return isLetter(c) || isDigit(c) })
}

// numberEnd returns where the number ends whose digits begin at i.
func numberEnd(s string, i int) int {
	i = skip(s, i, isDigit)
	if i+1 < len(s) && s[i] == '.' && isDigit(s[i+1]) {
		i = skip(s, i+1, isDigit)
	}
	return i
}

// tokenEnd returns where the token ends that begins at i, before the end of s. A minus sign is a token of its own here.
func tokenEnd(s string, i int) int {
	switch c := s[i]; {
	case isLetter(c):
		return wordEnd(s, i)
	case isDigit(c):
		return numberEnd(s, i)
	case c == '@' && i+1 < len(s) && isLetter(s[i+1]):
		return wordEnd(s, i+1)
	case i+1 < len(s) && isPair(s[i:i+2]):
		return i + 2
	}
	return i + 1
}

// isPair reports whether two bytes are one token.
func isPair(s string) bool {
	switch s {
	case "*.", "/.", "<<", ">>", "==", "!=", "<=", ">=":
		return true
	}
	return false
}

package syntax

import (
	"math"
	"math/big"
	"regexp"
	"strings"

	"warpwright/api"
	"warpwright/scalar"
)

// The grammar as the chapter has it; what stands in functions has rules of its own.
const grammar = `
kernel = "kernel" name "group" size "sub" size { array } { param } { func } block .
array = ( "global" | "shared" | "private" ) name type size .
param = "param" name type .
func = "func" name "(" [ name type { "," name type } ] ")" type "{" { fstmt } "return" expr "}" .
type = "int" | "fix" | "bool" .
block = "{" { stmt } "}" .
stmt = "var" name type "=" expr
 | name "=" expr
 | name "=" ( "ballot" | "any" | "all" | "scan" | "sum" ) "(" expr ")"
 | name "=" "shuffle" "(" expr "," expr ")"
 | name "[" expr "]" "=" expr
 | "atomic" name "[" expr "]" ( "add" | "min" | "max" | "and" | "or" | "xor" ) expr
 | "if" expr block [ "else" block ]
 | "while" expr "most" size block
 | "break" | "continue" | "return" | "barrier"
 | "fence" ( "group" | "device" ) .
fblock = "{" { fstmt } "}" .
fstmt = "var" name type "=" expr
 | name "=" expr
 | "if" expr fblock [ "else" fblock ]
 | "while" expr "most" size fblock
 | "break" | "continue" .
expr = number | "true" | "false" | name | id
 | name "[" expr "]" | name "(" [ expr { "," expr } ] ")"
 | ( "neg" | "not" | "abs" | "fix" | "int" ) "(" expr ")"
 | ( "min" | "max" ) "(" expr "," expr ")"
 | "(" expr binary expr ")" | "(" expr "?" expr ":" expr ")" .
binary = "+" | "-" | "*" | "/" | "%" | "*." | "/." | "&" | "|" | "^" | "<<" | ">>" | "==" | "!=" | "<" | "<=" | ">" | ">=" .
id = "@item" | "@local" | "@group" | "@items" | "@size" | "@lane" | "@sub" .
`

const keywords = " kernel group sub global shared private param func int fix bool var if else while most break continue return barrier fence device atomic ballot any all shuffle scan sum neg not abs min max true false add and or xor "

var (
	wordForm  = regexp.MustCompile(`^[a-zA-Z][a-zA-Z0-9]{0,11}$`)
	sizeForm  = regexp.MustCompile(`^(0|-?[1-9][0-9]*)$`)
	spaceForm = regexp.MustCompile(`^[ \t\n]*`)
	tokenForm = longest(`^([a-zA-Z][a-zA-Z0-9]*|@[a-zA-Z][a-zA-Z0-9]*|[0-9]+(\.[0-9]+)?|\*\.|/\.|<<|>>|==|!=|<=|>=|(?s:.))`)
	minusForm = longest(`^-[0-9]+(\.[0-9]+)?`)
)

func longest(s string) *regexp.Regexp {
	r := regexp.MustCompile(s)
	r.Longest()
	return r
}

// part of a grammar: a token (quoted, or the class name, size or number), a rule (its name), or a composition ("seq", "alt", "opt", "rep") of others.
type part struct {
	kind string
	text string
	of   []*part
}

type rules map[string]*part

// readGrammar reads rules that end with a point; all their symbols are separated by spaces.
func readGrammar(s string) rules {
	r := rules{}
	symbols := strings.Fields(s)
	for len(symbols) > 0 {
		name := symbols[0]
		symbols = symbols[2:]
		r[name] = readChoice(&symbols, ".")
	}
	return r
}

func readChoice(symbols *[]string, end string) *part {
	choice := &part{kind: "alt", of: []*part{{kind: "seq"}}}
	for {
		last := choice.of[len(choice.of)-1]
		s := (*symbols)[0]
		*symbols = (*symbols)[1:]
		switch s {
		case end:
			return choice
		case "|":
			choice.of = append(choice.of, &part{kind: "seq"})
		case "(":
			last.of = append(last.of, readChoice(symbols, ")"))
		case "[":
			last.of = append(last.of, &part{kind: "opt", of: []*part{readChoice(symbols, "]")}})
		case "{":
			last.of = append(last.of, &part{kind: "rep", of: []*part{readChoice(symbols, "}")}})
		case "name", "size", "number":
			last.of = append(last.of, &part{kind: s})
		default:
			if s[0] == '"' {
				last.of = append(last.of, &part{kind: "token", text: s[1 : len(s)-1]})
			} else {
				last.of = append(last.of, &part{kind: "rule", text: s})
			}
		}
	}
}

// rest is what of a text is still to come.
type rest struct {
	first *part
	then  *rest
}

// fronts returns all that the rest can begin with: rests whose first part is a token or a class, and nil if nothing has to come.
func (r rules) fronts(s *rest) []*rest {
	if s == nil {
		return []*rest{nil}
	}
	switch p := s.first; p.kind {
	case "rule":
		return r.fronts(&rest{r[p.text], s.then})
	case "alt":
		var all []*rest
		for _, q := range p.of {
			all = append(all, r.fronts(&rest{q, s.then})...)
		}
		return all
	case "seq":
		then := s.then
		for i := len(p.of) - 1; i >= 0; i-- {
			then = &rest{p.of[i], then}
		}
		return r.fronts(then)
	case "opt":
		return append(r.fronts(s.then), r.fronts(&rest{p.of[0], s.then})...)
	case "rep":
		return append(r.fronts(s.then), r.fronts(&rest{p.of[0], s})...)
	}
	return []*rest{s}
}

func (p *part) matches(token string) bool {
	switch p.kind {
	case "name":
		return wordForm.MatchString(token) && !strings.Contains(keywords, " "+token+" ")
	case "size":
		n, ok := new(big.Int).SetString(token, 10)
		return ok && sizeForm.MatchString(token) && n.Cmp(big.NewInt(math.MinInt64)) >= 0 && n.Cmp(big.NewInt(math.MaxInt64)) <= 0
	case "number":
		_, e := scalar.Parse(api.TInt, token)
		_, f := scalar.Parse(api.TFix, token)
		return e == api.OK || f == api.OK
	}
	return p.text == token
}

// beginning is what has been read of a text: all that may come next.
type beginning struct {
	rules
	next []*rest
}

func start() beginning {
	r := readGrammar(grammar)
	return beginning{r, r.fronts(&rest{&part{kind: "rule", text: "kernel"}, nil})}
}

// token cuts off the first token of a text that is not empty.
func (b beginning) token(s string) string {
	for _, n := range b.next {
		if n != nil && (n.first.kind == "size" || n.first.kind == "number") {
			if t := minusForm.FindString(s); t != "" {
				return t
			}
		}
	}
	return tokenForm.FindString(s)
}

// after goes on by a token: nothing may come next if it is wrong.
func (b beginning) after(token string) beginning {
	var next []*rest
	for _, n := range b.next {
		if n != nil && n.first.matches(token) {
			next = append(next, b.fronts(n.then)...)
		}
	}
	return beginning{b.rules, next}
}

// whole reports whether what has been read is a text.
func (b beginning) whole() bool {
	for _, n := range b.next {
		if n == nil {
			return true
		}
	}
	return false
}

// read goes on with s from the offset i on. It returns the offset of the first token that is wrong, or the length of s.
func (b beginning) read(s string, i int) (beginning, int) {
	for {
		i += len(spaceForm.FindString(s[i:]))
		if i == len(s) {
			return b, i
		}
		t := b.token(s[i:])
		b = b.after(t)
		if len(b.next) == 0 {
			return b, i
		}
		i += len(t)
	}
}

// tokens returns the tokens of a text that begins correctly.
func tokens(s string) []string {
	b := start()
	var all []string
	for {
		s = s[len(spaceForm.FindString(s)):]
		if s == "" {
			return all
		}
		t := b.token(s)
		b = b.after(t)
		all = append(all, t)
		s = s[len(t):]
	}
}

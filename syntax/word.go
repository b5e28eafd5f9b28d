package syntax

import (
	"slices"

	"warpwright/api"
)

const maxName = 12 // bytes of a name

// words are what stands in a text for the codes of one kind: the index of each is its code. Codes that have none have an empty string.
type words []string

// of returns what stands for a code; an empty string if nothing does.
func (w words) of(code int) string {
	if code < 0 || code >= len(w) {
		return ""
	}
	return w[code]
}

// code returns the code for which a token stands; 0, which is none, if there is no such code.
func (w words) code(token string) int {
	return max(0, slices.Index(w, token))
}

func typeWords() words {
	return words{api.TInt: "int", api.TFix: "fix", api.TBool: "bool"}
}

func spaceWords() words {
	return words{api.Global: "global", api.Shared: "shared", api.Private: "private"}
}

// stmtWords are the words with which statements begin, unless they begin with a name.
func stmtWords() words {
	return words{
		api.SVar: "var", api.SAtom: "atomic", api.SIf: "if", api.SWhile: "while", api.SBreak: "break",
		api.SContinue: "continue", api.SReturn: "return", api.SBarrier: "barrier", api.SFence: "fence",
	}
}

func subWords() words {
	return words{
		api.SBallot: "ballot", api.SAny: "any", api.SAll: "all",
		api.SShuffle: "shuffle", api.SScan: "scan", api.SSum: "sum",
	}
}

func atomWords() words {
	return words{
		api.BAdd: "add", api.BMin: "min", api.BMax: "max",
		api.BAnd: "and", api.BOr: "or", api.BXor: "xor",
	}
}

func fenceWords() words {
	return words{api.FenceGroup: "group", api.FenceDevice: "device"}
}

func idWords() words {
	return words{
		api.IdItem: "@item", api.IdLocal: "@local", api.IdGroup: "@group", api.IdItems: "@items",
		api.IdSize: "@size", api.IdLane: "@lane", api.IdSub: "@sub",
	}
}

func unaryWords() words {
	return words{api.UNeg: "neg", api.UNot: "not", api.UAbs: "abs", api.UFix: "fix", api.UInt: "int"}
}

// binaryWords are those of the binary operators that are written like functions.
func binaryWords() words {
	return words{api.BMin: "min", api.BMax: "max"}
}

// binarySigns are those of the binary operators that stand between their operands.
func binarySigns() words {
	return words{
		api.BAdd: "+", api.BSub: "-", api.BMul: "*", api.BDiv: "/", api.BRem: "%", api.BMulF: "*.", api.BDivF: "/.",
		api.BAnd: "&", api.BOr: "|", api.BXor: "^", api.BShl: "<<", api.BShr: ">>",
		api.BEq: "==", api.BNe: "!=", api.BLt: "<", api.BLe: "<=", api.BGt: ">", api.BGe: ">=",
	}
}

// inFunction reports whether statements of a kind may stand in a function.
func inFunction(kind int) bool {
	switch kind {
	case api.SVar, api.SSet, api.SIf, api.SWhile, api.SBreak, api.SContinue:
		return true
	}
	return false
}

func isName(s string) bool {
	return s != "" && len(s) <= maxName && isLetter(s[0]) && wordEnd(s, 0) == len(s) && !isKeyword(s)
}

func isKeyword(s string) bool {
	switch s {
	case "kernel", "group", "sub", "global", "shared", "private", "param", "func", "int", "fix", "bool",
		"var", "if", "else", "while", "most", "break", "continue", "return", "barrier", "fence", "device", "atomic",
		"ballot", "any", "all", "shuffle", "scan", "sum", "neg", "not", "abs", "min", "max", "true", "false",
		"add", "and", "or", "xor":
		return true
	}
	return false
}

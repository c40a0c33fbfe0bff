package term

import (
	"slices"

	"emend/api"
	"emend/class"
	"emend/number"
	"emend/quoted"
)

// kidsFit tells whether a part of a kind may have so many kids.
func kidsFit(kind uint8, n int) bool {
	switch kind {
	case api.KNone, api.KName, api.KLit, api.KEmpty:
		return n == 0
	case api.KGenOne, api.KTilde, api.KParen, api.KGuard, api.KStar,
		api.KUnary, api.KDots, api.KSliceOf, api.KChanOf, api.KFuncType,
		api.KStruct, api.KInterface, api.KExprStmt, api.KIncDec, api.KGo,
		api.KDefer, api.KReturn, api.KBranch, api.KBlock, api.KSelect,
		api.KDeclStmt:
		return n == 1
	case api.KImportSpec, api.KSignature, api.KParam, api.KTParam,
		api.KEmbed, api.KMethod, api.KSelector, api.KIndex, api.KAssert,
		api.KCall, api.KBinary, api.KKeyValue, api.KComposite, api.KFuncLit,
		api.KArray, api.KMapOf, api.KSend, api.KAssign, api.KCase, api.KComm,
		api.KLabeled:
		return n == 2
	case api.KFile, api.KValueSpec, api.KTypeSpec, api.KField, api.KSwitch,
		api.KRange:
		return n == 3
	case api.KSlice, api.KIf, api.KTypeSwitch, api.KFor:
		return n == 4
	case api.KFuncDecl:
		return n == 5
	case api.KNames, api.KTParams, api.KUnion:
		return n >= 1
	case api.KDecls, api.KGenMany, api.KExprs, api.KElems, api.KStmts,
		api.KParams, api.KFields, api.KMethods, api.KClauses:
		return true
	}
	return false
}

// wordFits tells whether a part of a kind may have a word.
func wordFits(kind uint8, word string) bool {
	switch kind {
	case api.KName:
		return class.Name(word)
	case api.KLit:
		return isLit(word)
	}
	return slices.Contains(words(kind), word)
}

// isLit tells numbers and texts in marks.
func isLit(word string) bool {
	_, err := quoted.Value(word)
	return err == api.OK || number.Kind(word) != 0
}

// words are those that a part of a kind may have.
func words(kind uint8) []string {
	switch kind {
	case api.KGenOne, api.KGenMany:
		return []string{"import", "const", "var", "type"}
	case api.KImportSpec:
		return []string{"", "."}
	case api.KTypeSpec:
		return []string{"", "="}
	case api.KParam, api.KCall:
		return []string{"", "..."}
	case api.KUnary:
		return []string{"+", "-", "!", "^", "&", "<-"}
	case api.KBinary:
		return []string{
			"||", "&&", "==", "!=", "<", "<=", ">", ">=", "+", "-",
			"|", "^", "*", "/", "%", "<<", ">>", "&", "&^",
		}
	case api.KChanOf:
		return []string{"chan", "chan<-", "<-chan"}
	case api.KIncDec:
		return []string{"++", "--"}
	case api.KAssign:
		return []string{
			"=", ":=", "+=", "-=", "*=", "/=", "%=",
			"&=", "|=", "^=", "<<=", ">>=", "&^=",
		}
	case api.KBranch:
		return []string{"break", "continue", "goto", "fallthrough"}
	case api.KRange:
		return []string{"", "=", ":="}
	}
	return []string{""}
}

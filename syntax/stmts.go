package syntax

import "emend/api"

// stmtReaders are the readers of statements that begin with a word of their
// own.
func stmtReaders() readers {
	return readers{
		"const":       (*reader).declStmt,
		"var":         (*reader).declStmt,
		"type":        (*reader).declStmt,
		"go":          (*reader).goStmt,
		"defer":       (*reader).deferStmt,
		"return":      (*reader).returnStmt,
		"break":       (*reader).branch,
		"continue":    (*reader).branch,
		"goto":        (*reader).branch,
		"fallthrough": (*reader).branch,
		"{":           (*reader).block,
		"if":          (*reader).ifStmt,
		"switch":      (*reader).switchStmt,
		"select":      (*reader).selectStmt,
		"for":         (*reader).forStmt,
	}
}

// statements reads statements up to what ends them.
func (r *reader) statements() *node {
	var kids []*node
	for !r.ended() && !r.is("}") && !r.is("case") && !r.is("default") {
		kids = append(kids, r.stmtOrEmpty())
		if !r.next(";") && !r.stmtEnds() {
			r.refuse()
		}
	}
	return r.row(api.KStmts, kids)
}

// stmtEnds tells whether what ends a statement is next.
func (r *reader) stmtEnds() bool {
	return r.is(";") || r.is("}") || r.ended()
}

// stmtOrEmpty reads a statement, which may be empty.
func (r *reader) stmtOrEmpty() *node {
	if r.stmtEnds() {
		return nothing(api.KEmpty, r.at)
	}
	return r.stmt()
}

// stmt reads a statement.
func (r *reader) stmt() *node {
	if r.isName(r.at) && r.mark(r.at+1) == ":" {
		return r.labeled()
	}
	if read, ok := r.stmts[r.mark(r.at)]; ok {
		return read(r)
	}
	return r.simple()
}

// block reads statements in braces.
func (r *reader) block() *node {
	from := r.at
	r.open()
	x := r.statements()
	r.want("}")
	return r.made(api.KBlock, from, x)
}

// labeled reads a label and its statement.
func (r *reader) labeled() *node {
	from := r.at
	label := r.name()
	r.over()
	return r.made(api.KLabeled, from, label, r.stmtOrEmpty())
}

// declStmt reads a declaration among statements.
func (r *reader) declStmt() *node {
	from := r.at
	read := r.decls[r.mark(from)]
	return r.made(api.KDeclStmt, from, read(r))
}

// goStmt reads what is done beside.
func (r *reader) goStmt() *node {
	from := r.over()
	return r.made(api.KGo, from, r.expr())
}

// deferStmt reads what is done at the end.
func (r *reader) deferStmt() *node {
	from := r.over()
	return r.made(api.KDefer, from, r.expr())
}

// returnStmt reads what is answered.
func (r *reader) returnStmt() *node {
	from := r.over()
	if r.stmtEnds() {
		return r.made(api.KReturn, from, nothing(api.KExprs, r.at))
	}
	return r.made(api.KReturn, from, r.exprs())
}

// branch reads a statement that goes on elsewhere.
func (r *reader) branch() *node {
	word := r.over()
	var label *node
	switch r.mark(word) {
	case "goto":
		label = r.name()
	case "fallthrough":
		label = r.none()
	default:
		label = r.maybe(r.isName(r.at), r.name)
	}
	return r.worded(api.KBranch, word, word, label)
}

// simple reads a statement that may stand in a head, too.
func (r *reader) simple() *node {
	return r.simpleOf(r.exprs())
}

// simpleOf reads on in such a statement behind the expressions that it begins
// with.
func (r *reader) simpleOf(left *node) *node {
	mark := r.mark(r.at)
	if isAssign(mark) {
		word := r.over()
		return r.worded(api.KAssign, word, left.from, left, r.exprs())
	}
	if len(left.kids) > 1 {
		return r.refuse()
	}
	x := left.kids[0]
	switch mark {
	case "++", "--":
		word := r.over()
		return r.worded(api.KIncDec, word, x.from, x)
	case "<-":
		r.over()
		return r.made(api.KSend, x.from, x, r.expr())
	}
	return r.made(api.KExprStmt, x.from, x)
}

// isAssign tells the signs by which something is assigned.
func isAssign(mark string) bool {
	switch mark {
	case "=", ":=", "+=", "-=", "*=", "/=", "%=", "&=", "|=", "^=", "<<=", ">>=", "&^=":
		return true
	}
	return false
}

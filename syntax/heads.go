package syntax

import "emend/api"

// exprOf is the expression that a statement must be; if it is another one, the
// token behind it isn't wanted.
func (r *reader) exprOf(x *node) *node {
	if x.kind != api.KExprStmt {
		return r.refuse()
	}
	return x.kids[0]
}

// ifStmt reads an if, and what is done otherwise.
func (r *reader) ifStmt() *node {
	from := r.over()
	first, cond := r.ifHead()
	block := r.block()
	other := r.none()
	if r.next("else") {
		other = r.otherwise()
	}
	return r.made(api.KIf, from, first, cond, block, other)
}

// ifHead reads what stands ahead of an if's block.
func (r *reader) ifHead() (first, cond *node) {
	r.head = true
	first = r.none()
	if !r.is(";") {
		x := r.simple()
		if !r.is(";") {
			return first, r.exprOf(x)
		}
		first = x
	}
	r.over()
	return first, r.expr()
}

// otherwise reads what stands behind an else.
func (r *reader) otherwise() *node {
	if r.is("if") {
		return r.ifStmt()
	}
	return r.block()
}

// switchStmt reads a switch by values or by types.
func (r *reader) switchStmt() *node {
	from := r.over()
	first, last := r.switchHead()
	if last == nil {
		what := r.none()
		return r.made(api.KSwitch, from, first, what, r.clauses(r.exprCase))
	}
	if name, what := r.guarded(last); what != nil {
		return r.made(api.KTypeSwitch, from, first, name, what, r.clauses(r.typeCase))
	}
	what := r.exprOf(last)
	return r.made(api.KSwitch, from, first, what, r.clauses(r.exprCase))
}

// switchHead reads what stands ahead of a switch's clauses: what is done
// first, and the statement that tells by what it goes; nil, if none does.
func (r *reader) switchHead() (first, last *node) {
	r.head = true
	first = r.none()
	if !r.is(";") && !r.is("{") {
		last = r.simple()
	}
	if !r.next(";") {
		return first, last
	}
	if last != nil {
		first = last
	}
	if r.is("{") {
		return first, nil
	}
	return first, r.simple()
}

// guarded tells by whose type a switch goes, and the name that it has in the
// clauses; nil and nil, if its statement tells no type.
func (r *reader) guarded(x *node) (name, what *node) {
	var guard *node
	switch {
	case x.kind == api.KExprStmt:
		name, guard = nothing(api.KNone, x.from), x.kids[0]
	case x.kind == api.KAssign && r.mark(x.word) == ":=":
		name, guard = only(x.kids[0], api.KName), only(x.kids[1], api.KGuard)
	}
	if name == nil || guard == nil || guard.kind != api.KGuard {
		return nil, nil
	}
	return name, guard.kids[0]
}

// only is the one kid of a node, if it has just one, of a kind; else nil.
func only(x *node, kind uint8) *node {
	if len(x.kids) != 1 || x.kids[0].kind != kind {
		return nil
	}
	return x.kids[0]
}

// selectStmt reads a select.
func (r *reader) selectStmt() *node {
	from := r.over()
	return r.made(api.KSelect, from, r.clauses(r.comm))
}

// clauses reads clauses in braces.
func (r *reader) clauses(read func() *node) *node {
	r.open()
	var kids []*node
	for !r.is("}") {
		kids = append(kids, read())
	}
	x := r.row(api.KClauses, kids)
	r.over()
	return x
}

// The clauses, each by what stands behind its case.
func (r *reader) exprCase() *node { return r.clause(api.KCase, r.exprs) }
func (r *reader) typeCase() *node { return r.clause(api.KCase, r.typeRow) }
func (r *reader) comm() *node     { return r.clause(api.KComm, r.simple) }

// clause reads a case, or the one for all others, and its statements.
func (r *reader) clause(kind uint8, read func() *node) *node {
	from := r.at
	var what *node
	if r.next("default") {
		what = r.none()
	} else {
		r.want("case")
		what = read()
	}
	r.want(":")
	return r.made(kind, from, what, r.statements())
}

// typeRow reads types.
func (r *reader) typeRow() *node {
	return r.row(api.KExprs, r.between(",", r.typeNode))
}

// forStmt reads a for of any sort.
func (r *reader) forStmt() *node {
	from := r.over()
	r.head = true
	first := r.none()
	switch r.mark(r.at) {
	case "{":
		return r.made(api.KFor, from, first, r.none(), r.none(), r.block())
	case "range":
		return r.rangeStmt(from, none, first)
	case ";":
		return r.forParts(from, first)
	}
	left := r.exprs()
	if (r.is("=") || r.is(":=")) && r.mark(r.at+1) == "range" {
		return r.rangeStmt(from, r.over(), left)
	}
	x := r.simpleOf(left)
	if r.is(";") {
		return r.forParts(from, x)
	}
	cond := r.exprOf(x)
	return r.made(api.KFor, from, first, cond, r.none(), r.block())
}

// rangeStmt reads a for that goes through something, from the range on.
func (r *reader) rangeStmt(from, word int, left *node) *node {
	r.over()
	x := r.expr()
	return r.worded(api.KRange, word, from, left, x, r.block())
}

// forParts reads a for whose head has three parts, from the first ; on.
func (r *reader) forParts(from int, first *node) *node {
	r.over()
	cond := r.maybe(!r.is(";"), r.expr)
	r.want(";")
	last := r.maybe(!r.is("{"), r.simple)
	return r.made(api.KFor, from, first, cond, last, r.block())
}

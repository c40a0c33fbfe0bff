package syntax

import "emend/api"

// loosest is the level of the operators that are taken last.
const loosest = 1

// level is how tight an operator is; 0 of what is none.
func level(mark string) int {
	switch mark {
	case "||":
		return loosest
	case "&&":
		return 2
	case "==", "!=", "<", "<=", ">", ">=":
		return 3
	case "+", "-", "|", "^":
		return 4
	case "*", "/", "%", "<<", ">>", "&", "&^":
		return 5
	}
	return 0
}

// exprs reads expressions.
func (r *reader) exprs() *node {
	return r.row(api.KExprs, r.between(",", r.expr))
}

// expr reads an expression.
func (r *reader) expr() *node {
	return r.binary(loosest)
}

// binary reads operators that are at least so tight, and what they stand
// between.
func (r *reader) binary(least int) *node {
	x := r.unary()
	for {
		tight := level(r.mark(r.at))
		if tight < least {
			return x
		}
		word := r.over()
		x = r.worded(api.KBinary, word, x.from, x, r.binary(tight+1))
	}
}

// unary reads an operator and what it stands ahead of.
func (r *reader) unary() *node {
	from := r.at
	switch r.mark(from) {
	case "<-":
		if r.mark(from+1) == "chan" {
			return r.primary()
		}
		fallthrough
	case "+", "-", "!", "^", "&":
		r.over()
		return r.worded(api.KUnary, from, from, r.unary())
	case "*":
		r.over()
		return r.made(api.KStar, from, r.unary())
	}
	return r.primary()
}

// primary reads an operand and what stands behind it.
func (r *reader) primary() *node {
	x := r.operand()
	for r.hasSuffix(x) {
		x = r.inside(func() *node { return r.suffix(x) })
	}
	return x
}

// operand reads what an expression begins with.
func (r *reader) operand() *node {
	switch r.kindOf(r.at) {
	case api.TName:
		return r.name()
	case api.TInt, api.TFloat, api.TImag, api.TRune, api.TString:
		return r.leaf(api.KLit)
	}
	switch r.mark(r.at) {
	case "(":
		return r.inside(r.paren)
	case "func":
		return r.function()
	case "[", "struct", "map", "chan", "interface", "<-": // a <- that has a chan behind it
		return r.typeNode()
	}
	return r.refuse()
}

// paren reads an expression in brackets.
func (r *reader) paren() *node {
	from := r.over()
	x := r.expr()
	r.want(")")
	return r.made(api.KParen, from, x)
}

// function reads a function that has a body, or a function's type.
func (r *reader) function() *node {
	from := r.over()
	signature := r.signature()
	if !r.is("{") {
		return r.made(api.KFuncType, from, signature)
	}
	return r.made(api.KFuncLit, from, signature, r.inside(r.block))
}

// hasSuffix tells whether a suffix of x is next.
func (r *reader) hasSuffix(x *node) bool {
	switch r.mark(r.at) {
	case ".", "(", "[":
		return true
	case "{":
		return r.mayHaveElements(x)
	}
	return false
}

// mayHaveElements tells whether elements behind x are its own.
func (r *reader) mayHaveElements(x *node) bool {
	switch x.kind {
	case api.KArray, api.KDots, api.KSliceOf, api.KMapOf, api.KStruct:
		return true
	case api.KIndex:
		return !r.head && isTypeName(x.kids[0])
	}
	return !r.head && isTypeName(x)
}

// isTypeName tells a name, and one behind a package's name.
func isTypeName(x *node) bool {
	return x.kind == api.KName || x.kind == api.KSelector && x.kids[0].kind == api.KName
}

// suffix reads the suffix of x that is next.
func (r *reader) suffix(x *node) *node {
	switch r.mark(r.at) {
	case ".":
		return r.dot(x)
	case "(":
		return r.call(x)
	case "[":
		return r.index(x)
	}
	return r.composite(x)
}

// dot reads what of x is told behind a point.
func (r *reader) dot(x *node) *node {
	r.over()
	if !r.next("(") {
		return r.made(api.KSelector, x.from, x, r.name())
	}
	if r.next("type") {
		r.want(")")
		return r.made(api.KGuard, x.from, x)
	}
	to := r.typeNode()
	r.want(")")
	return r.made(api.KAssert, x.from, x, to)
}

// call reads what x is called with.
func (r *reader) call(x *node) *node {
	r.over()
	args := r.row(api.KExprs, r.anyUpTo(")", r.expr))
	word := none
	if r.is("...") { // and so there are arguments
		word = r.over()
		r.next(",")
	}
	r.want(")")
	return r.worded(api.KCall, word, x.from, x, args)
}

// index reads an index, or a slice's.
func (r *reader) index(x *node) *node {
	r.over()
	if r.is(":") {
		return r.slice(x, r.none())
	}
	kids := []*node{r.expr()}
	if r.is(":") {
		return r.slice(x, kids[0])
	}
	if r.next(",") && !r.is("]") {
		kids = append(kids, r.upTo("]", r.expr)...)
	}
	at := r.row(api.KExprs, kids)
	r.want("]")
	return r.made(api.KIndex, x.from, x, at)
}

// slice reads a slice of x from the first : on.
func (r *reader) slice(x, low *node) *node {
	r.over()
	high := r.maybe(!r.is("]"), r.expr)
	most := r.maybe(r.next(":"), r.expr)
	r.want("]")
	return r.made(api.KSlice, x.from, x, low, high, most)
}

// composite reads the elements of x.
func (r *reader) composite(x *node) *node {
	r.over()
	elems := r.row(api.KElems, r.anyUpTo("}", r.element))
	r.want("}")
	return r.made(api.KComposite, x.from, x, elems)
}

// element reads a value, or a key and a value.
func (r *reader) element() *node {
	x := r.value()
	if !r.next(":") {
		return x
	}
	return r.made(api.KKeyValue, x.from, x, r.value())
}

// value reads an expression, or elements whose type isn't told.
func (r *reader) value() *node {
	if r.is("{") {
		return r.composite(r.none())
	}
	return r.expr()
}

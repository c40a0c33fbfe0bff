package syntax

import "emend/api"

// importReaders are the readers of what a file begins with.
func importReaders() readers {
	return readers{
		"import": (*reader).importDecl,
	}
}

// declReaders are the readers of the other declarations.
func declReaders() readers {
	return readers{
		"const": (*reader).constDecl,
		"var":   (*reader).varDecl,
		"type":  (*reader).typeDecl,
		"func":  (*reader).funcDecl,
	}
}

// file reads a file.
func (r *reader) file() *node {
	from := r.at
	r.want("package")
	name := r.name()
	r.want(";")
	imports := r.declsBy(r.imports)
	return r.made(api.KFile, from, name, imports, r.declsBy(r.decls))
}

// declsBy reads declarations, as long as one is next that has a reader.
func (r *reader) declsBy(by readers) *node {
	var kids []*node
	for {
		read, ok := by[r.mark(r.at)]
		if !ok {
			return r.row(api.KDecls, kids)
		}
		kids = append(kids, read(r))
		r.want(";")
	}
}

// The declarations that may stand in groups, each by what it declares.
func (r *reader) importDecl() *node { return r.group(r.importSpec) }
func (r *reader) constDecl() *node  { return r.group(r.constSpec) }
func (r *reader) varDecl() *node    { return r.group(r.varSpec) }
func (r *reader) typeDecl() *node   { return r.group(r.typeSpec) }

// group reads a word and what it declares: one, or several in brackets.
func (r *reader) group(spec func() *node) *node {
	word := r.over()
	if !r.next("(") {
		return r.worded(api.KGenOne, word, word, spec())
	}
	specs := r.linesUpTo(")", spec)
	r.want(")")
	return r.worded(api.KGenMany, word, word, specs...)
}

// importSpec reads what is imported, and as what.
func (r *reader) importSpec() *node {
	from := r.at
	if r.is(".") {
		name := r.none()
		return r.worded(api.KImportSpec, r.over(), from, name, r.str())
	}
	name := r.maybe(r.isName(from), r.name)
	return r.made(api.KImportSpec, from, name, r.str())
}

// constSpec reads names and what they are; alone they may stand, too.
func (r *reader) constSpec() *node {
	from := r.at
	names := r.names()
	if r.is(";") || r.is(")") || r.ended() {
		return r.made(api.KValueSpec, from, names, r.none(), r.none())
	}
	typed := r.maybe(!r.is("="), r.typeNode)
	r.want("=")
	return r.made(api.KValueSpec, from, names, typed, r.exprs())
}

// varSpec reads names, and their type, or what they are, or both.
func (r *reader) varSpec() *node {
	from := r.at
	names := r.names()
	typed := r.maybe(!r.is("="), r.typeNode)
	values := r.maybe(r.next("="), r.exprs)
	return r.made(api.KValueSpec, from, names, typed, values)
}

// typeSpec reads a name and the type that it has or is.
func (r *reader) typeSpec() *node {
	from, word := r.at, none
	name := r.name()
	params := r.maybe(r.hasTParams(), r.tparams)
	if r.is("=") {
		word = r.over()
	}
	return r.worded(api.KTypeSpec, word, from, name, params, r.typeNode())
}

// hasTParams tells whether the [ behind a type's name opens parameters, and no
// array's length.
func (r *reader) hasTParams() bool {
	if !r.is("[") || !r.isName(r.at+1) {
		return false
	}
	switch r.mark(r.at + 2) {
	case ",", "~", "interface", "func", "map", "chan", "struct":
		return true
	}
	return r.isName(r.at + 2)
}

// funcDecl reads a function, with a body or without.
func (r *reader) funcDecl() *node {
	from := r.over()
	receiver := r.maybe(r.is("("), r.params)
	name := r.name()
	tparams := r.maybe(r.is("["), r.tparams)
	signature := r.signature()
	body := r.maybe(r.is("{"), r.block)
	return r.made(api.KFuncDecl, from, receiver, name, tparams, signature, body)
}

// signature reads parameters and results.
func (r *reader) signature() *node {
	from := r.at
	params := r.params()
	if r.is("(") {
		return r.made(api.KSignature, from, params, r.params())
	}
	_, other := r.types[r.mark(r.at)]
	result := r.maybe(r.isName(r.at) || other, r.typeNode)
	return r.made(api.KSignature, from, params, result)
}

// params reads parameters in their brackets.
func (r *reader) params() *node {
	from := r.at
	r.want("(")
	kids := r.anyUpTo(")", r.param)
	r.want(")")
	return r.made(api.KParams, from, kids...)
}

// param reads a parameter.
func (r *reader) param() *node {
	from, word := r.at, none
	name := r.maybe(r.paramHasName(), r.name)
	if r.is("...") {
		word = r.over()
	}
	return r.worded(api.KParam, word, from, name, r.typeNode())
}

// paramHasName tells whether the parameter that is next is a name and a type,
// and no type alone.
func (r *reader) paramHasName() bool {
	if !r.isName(r.at) {
		return false
	}
	behind := r.at + 1
	past := r.pastIndex(behind)
	switch r.mark(past) {
	case ",", ")":
		return false
	case ".":
		return past != behind
	}
	return true
}

// tparams reads a type's or a function's parameters in their brackets.
func (r *reader) tparams() *node {
	from := r.over()
	kids := r.upTo("]", r.tparam)
	r.want("]")
	return r.made(api.KTParams, from, kids...)
}

// tparam reads names and what types they may be.
func (r *reader) tparam() *node {
	from := r.at
	names := r.names()
	return r.made(api.KTParam, from, names, r.union())
}

// union reads types of which any may be.
func (r *reader) union() *node {
	return r.row(api.KUnion, r.between("|", r.unionTerm))
}

// unionTerm reads one of a union's types.
func (r *reader) unionTerm() *node {
	from := r.at
	if r.next("~") {
		return r.made(api.KTilde, from, r.typeNode())
	}
	return r.typeNode()
}

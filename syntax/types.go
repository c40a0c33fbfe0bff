package syntax

import "emend/api"

// typeReaders are the readers of types, but of those that begin with a name.
func typeReaders() readers {
	return readers{
		"*":         (*reader).pointerType,
		"(":         (*reader).parenType,
		"[":         (*reader).rowType,
		"map":       (*reader).mapType,
		"chan":      (*reader).chanType,
		"<-":        (*reader).receiveType,
		"func":      (*reader).funcType,
		"struct":    (*reader).structType,
		"interface": (*reader).interfaceType,
	}
}

// typeNode reads a type.
func (r *reader) typeNode() *node {
	if r.isName(r.at) {
		return r.named()
	}
	read, ok := r.types[r.mark(r.at)]
	if !ok {
		return r.refuse()
	}
	return read(r)
}

// named reads a type's name, and in brackets the types that it is of.
func (r *reader) named() *node {
	from := r.at
	x := r.name()
	if r.next(".") {
		x = r.made(api.KSelector, from, x, r.name())
	}
	if !r.next("[") {
		return x
	}
	types := r.row(api.KExprs, r.upTo("]", r.typeNode))
	r.want("]")
	return r.made(api.KIndex, from, x, types)
}

// pointerType reads what a pointer points to.
func (r *reader) pointerType() *node {
	from := r.over()
	return r.made(api.KStar, from, r.typeNode())
}

// parenType reads a type in brackets.
func (r *reader) parenType() *node {
	from := r.over()
	x := r.typeNode()
	r.want(")")
	return r.made(api.KParen, from, x)
}

// rowType reads a type that begins with a [.
func (r *reader) rowType() *node {
	from := r.over()
	if r.next("]") {
		return r.made(api.KSliceOf, from, r.typeNode())
	}
	if r.next("...") {
		r.want("]")
		return r.made(api.KDots, from, r.typeNode())
	}
	length := r.inside(r.expr)
	r.want("]")
	return r.made(api.KArray, from, length, r.typeNode())
}

// mapType reads a map's type.
func (r *reader) mapType() *node {
	from := r.over()
	r.want("[")
	key := r.typeNode()
	r.want("]")
	return r.made(api.KMapOf, from, key, r.typeNode())
}

// chanType reads a channel's type that begins with a chan.
func (r *reader) chanType() *node {
	word := r.over()
	r.next("<-")
	return r.worded(api.KChanOf, word, word, r.typeNode())
}

// receiveType reads a channel's type that begins with an arrow.
func (r *reader) receiveType() *node {
	word := r.over()
	r.want("chan")
	return r.worded(api.KChanOf, word, word, r.typeNode())
}

// funcType reads a function's type.
func (r *reader) funcType() *node {
	from := r.over()
	return r.made(api.KFuncType, from, r.signature())
}

// structType reads a struct's type.
func (r *reader) structType() *node {
	from := r.over()
	r.want("{")
	fields := r.row(api.KFields, r.linesUpTo("}", r.field))
	r.want("}")
	return r.made(api.KStruct, from, fields)
}

// field reads a field, or a type that is embedded.
func (r *reader) field() *node {
	from := r.at
	if r.next("*") {
		star := r.made(api.KStar, from, r.named())
		return r.made(api.KEmbed, from, star, r.tag())
	}
	if r.isEmbed() {
		x := r.named()
		return r.made(api.KEmbed, from, x, r.tag())
	}
	names := r.names()
	typed := r.typeNode()
	return r.made(api.KField, from, names, typed, r.tag())
}

// isEmbed tells whether a type that is embedded is next, which begins with a
// name.
func (r *reader) isEmbed() bool {
	if !r.isName(r.at) {
		return false
	}
	behind := r.at + 1
	past := r.pastIndex(behind)
	switch r.mark(past) {
	case ";", "}":
		return true
	case ".":
		return past == behind
	}
	return r.isString(past)
}

// interfaceType reads an interface's type.
func (r *reader) interfaceType() *node {
	from := r.over()
	r.want("{")
	methods := r.row(api.KMethods, r.linesUpTo("}", r.elem))
	r.want("}")
	return r.made(api.KInterface, from, methods)
}

// elem reads a method, or types of which any may be.
func (r *reader) elem() *node {
	if !r.isName(r.at) || r.mark(r.at+1) != "(" {
		return r.union()
	}
	from := r.at
	name := r.name()
	return r.made(api.KMethod, from, name, r.signature())
}

package syntax

import "emend/api"

// none is what stands for a node's word where there is none.
const none = -1

// node is a node of a tree, with its kids.
type node struct {
	kind           uint8
	word, from, to int
	kids           []*node
}

// unwanted is the number of a token that a rule does not want where it stands.
type unwanted int

// readers tell by its text which reader a word or a sign has that is next.
type readers map[string]func(*reader) *node

// reader goes through a text's tokens.
type reader struct {
	text     string
	tokens   []api.Token
	partners []int
	at       int  // the number of the token that is next
	head     bool // whether that stands in a head

	imports, decls, types, stmts readers
}

// newReader is a reader that stands at the first token.
func newReader(text string, tokens []api.Token, partners []int) *reader {
	return &reader{
		text: text, tokens: tokens, partners: partners,
		imports: importReaders(), decls: declReaders(), types: typeReaders(), stmts: stmtReaders(),
	}
}

// whole reads all tokens as a goal says; none and the number of a token, if
// that isn't wanted where it stands.
func (r *reader) whole(goal uint8) (root *node, bad int) {
	defer func() {
		switch fault := recover().(type) {
		case nil:
		case unwanted:
			root, bad = nil, int(fault)
		default:
			panic(fault)
		}
	}()
	switch goal {
	case api.GType:
		root = r.typeNode()
		r.next(";")
	case api.GExpr:
		root = r.expr()
		r.next(";")
	case api.GStmts:
		root = r.statements()
	default:
		root = r.file()
	}
	if !r.ended() {
		r.refuse()
	}
	return root, 0
}

// refuse tells that the token that is next isn't wanted there. (It answers a
// node so that a reader may end with it.)
func (r *reader) refuse() *node {
	panic(unwanted(r.at))
}

// ended tells whether the end is next.
func (r *reader) ended() bool {
	return r.at == len(r.tokens)
}

// kindOf is the kind of a token; 0 at the end.
func (r *reader) kindOf(token int) uint8 {
	if token >= len(r.tokens) {
		return 0
	}
	return r.tokens[token].Kind
}

// mark is what a token says by which rules tell their ways: the text of a word
// of the language or of a sign, or a semicolon; the empty text for all others.
func (r *reader) mark(token int) string {
	switch r.kindOf(token) {
	case api.TSemi:
		return ";" // one of a line's end has no bytes
	case api.TOp, api.TWord:
		t := r.tokens[token]
		return r.text[t.From:t.To]
	}
	return ""
}

// is tells whether a mark is next.
func (r *reader) is(mark string) bool {
	return r.mark(r.at) == mark
}

// isName tells whether a token is a name.
func (r *reader) isName(token int) bool {
	return r.kindOf(token) == api.TName
}

// isString tells whether a token is a string.
func (r *reader) isString(token int) bool {
	return r.kindOf(token) == api.TString
}

// over goes over the token that is next, and tells its number.
func (r *reader) over() int {
	r.at++
	return r.at - 1
}

// next goes over a mark, if it is next.
func (r *reader) next(mark string) bool {
	ok := r.is(mark)
	if ok {
		r.over()
	}
	return ok
}

// want goes over a mark that must be next.
func (r *reader) want(mark string) {
	if !r.next(mark) {
		r.refuse()
	}
}

// made is a node of the tokens from one on that are read, without a word.
func (r *reader) made(kind uint8, from int, kids ...*node) *node {
	return r.worded(kind, none, from, kids...)
}

// worded is a node of the tokens from one on that are read, with a word.
func (r *reader) worded(kind uint8, word, from int, kids ...*node) *node {
	return &node{kind: kind, word: word, from: from, to: r.at, kids: kids}
}

// nothing is a node without tokens, at one where it stands.
func nothing(kind uint8, at int) *node {
	return &node{kind: kind, word: none, from: at, to: at}
}

// none is what stands for something that lacks.
func (r *reader) none() *node {
	return nothing(api.KNone, r.at)
}

// leaf is a node of the one token that is next, which is its word.
func (r *reader) leaf(kind uint8) *node {
	token := r.over()
	return r.worded(kind, token, token)
}

// row is a node of what stands in a row: from the first kid to the last one.
func (r *reader) row(kind uint8, kids []*node) *node {
	x := nothing(kind, r.at)
	if len(kids) > 0 {
		x.kids = kids
		x.from, x.to = kids[0].from, kids[len(kids)-1].to
	}
	return x
}

// maybe reads what may lack.
func (r *reader) maybe(there bool, read func() *node) *node {
	if !there {
		return r.none()
	}
	return read()
}

// open goes over the brace that opens a block or clauses, with which a head
// ends.
func (r *reader) open() {
	r.want("{")
	r.head = false
}

// inside reads what stands in brackets or is a function's body, and so in no
// head.
func (r *reader) inside(read func() *node) *node {
	head := r.head
	r.head = false
	x := read()
	r.head = head
	return x
}

// between reads one or more with a sign between any two.
func (r *reader) between(sign string, read func() *node) []*node {
	l := []*node{read()}
	for r.next(sign) {
		l = append(l, read())
	}
	return l
}

// upTo reads one or more with a comma between any two; ahead of the bracket
// that closes them another one may stand.
func (r *reader) upTo(bracket string, read func() *node) []*node {
	l := []*node{read()}
	for r.next(",") && !r.is(bracket) {
		l = append(l, read())
	}
	return l
}

// anyUpTo is upTo of none, too.
func (r *reader) anyUpTo(bracket string, read func() *node) []*node {
	if r.is(bracket) {
		return nil
	}
	return r.upTo(bracket, read)
}

// linesUpTo reads any number with a semicolon behind each; the last one may
// lack ahead of the bracket that closes them.
func (r *reader) linesUpTo(bracket string, read func() *node) []*node {
	var l []*node
	for !r.is(bracket) {
		l = append(l, read())
		if !r.next(";") {
			break
		}
	}
	return l
}

// pastIndex is the number of the token behind brackets [ ] that open at a
// token and have something within; the token's own, if none do.
func (r *reader) pastIndex(token int) int {
	if r.mark(token) != "[" || r.partners[token] == token+1 {
		return token
	}
	return r.partners[token] + 1
}

// name reads a name.
func (r *reader) name() *node {
	if !r.isName(r.at) {
		return r.refuse()
	}
	return r.leaf(api.KName)
}

// names reads names.
func (r *reader) names() *node {
	return r.row(api.KNames, r.between(",", r.name))
}

// str reads a string.
func (r *reader) str() *node {
	if !r.isString(r.at) {
		return r.refuse()
	}
	return r.leaf(api.KLit)
}

// tag reads the string behind a field, if there is one.
func (r *reader) tag() *node {
	return r.maybe(r.isString(r.at), r.str)
}

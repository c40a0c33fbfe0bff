package syntax_test

import (
	"strings"
	"testing"

	"emend/api"
	"emend/nest"
)

// grammar are the chapter's rules, written down once more. 'x' is a token with
// that text, 'x'w one that is the word; X? is X or a KNone where X can't begin;
// ^X is X in no head; end is the ; that may lack ahead of a bracket, after the
// one behind a statement; head+ and head- begin and end a head. [ ] { } and
// ( | ) go by the first token, or by what stands behind an @: tokens, or one of
// the questions below; the last way of ( | ) is taken where no other one is.
// Behind -> stands the node's kind, behind => that of one that goes from its
// first kid to its last one, behind +> that of one whose first kid was read
// ahead of it.
const grammar = `
File = 'package' Name ';' Imports Decls -> File
Imports = { Import ';' } => Decls
Decls = { Decl ';' } => Decls
Import = ( @'import''(' ImportMany | ImportOne )
ImportOne = 'import'w ImportSpec -> GenOne
ImportMany = 'import'w '(' { ImportSpec end } ')' -> GenMany
Decl = ( Func | GenDecl )
GenDecl = ( @'const''(' ConstMany | ConstOne | @'var''(' VarMany | VarOne | @'type''(' TypeMany | TypeOne )
ConstOne = 'const'w ConstSpec -> GenOne
ConstMany = 'const'w '(' { ConstSpec end } ')' -> GenMany
VarOne = 'var'w VarSpec -> GenOne
VarMany = 'var'w '(' { VarSpec end } ')' -> GenMany
TypeOne = 'type'w TypeSpec -> GenOne
TypeMany = 'type'w '(' { TypeSpec end } ')' -> GenMany
ImportSpec = ( @'.' none '.'w String | Name? String ) -> ImportSpec
ConstSpec = Names ( @'=' none '=' Exprs | @specEnds none none | Type '=' Exprs ) -> ValueSpec
VarSpec = Names ( @'=' none '=' Exprs | Type ( @'=' '=' Exprs | none ) ) -> ValueSpec
TypeSpec = Name ( @tparams TParams | none ) [ '='w ] Type -> TypeSpec
Func = 'func' Params? Name TParams? Signature Block? -> FuncDecl
Signature = Params ( @'(' Params | @type Type | none ) -> Signature
Params = '(' [ Param { @more ',' Param } [ ',' ] ] ')' -> Params
Param = ( @typeAlone none [ '...'w ] Type | Name [ '...'w ] Type ) -> Param
TParams = '[' TParam { @more ',' TParam } [ ',' ] ']' -> TParams
TParam = Names Union -> TParam
Names = Name { ',' Name } => Names
Union = Term { '|' Term } => Union
Term = ( Tilde | Type )
Tilde = '~' Type -> Tilde

Type = ( Named | Pointer | ParenType | @'['']' SliceOf | @'[''...' Dots | Array | MapOf | ChanTo | ChanFrom | FuncType | Struct | Interface )
Pointer = '*' Type -> Star
ParenType = '(' Type ')' -> Paren
SliceOf = '[' ']' Type -> SliceOf
Dots = '[' '...' ']' Type -> Dots
Array = '[' ^Expr ']' Type -> Array
MapOf = 'map' '[' Type ']' Type -> MapOf
ChanTo = 'chan'w [ '<-' ] Type -> ChanOf
ChanFrom = '<-'w 'chan' Type -> ChanOf
FuncType = 'func' Signature -> FuncType
Struct = 'struct' '{' Fields '}' -> Struct
Fields = { Field end } => Fields
Interface = 'interface' '{' Methods '}' -> Interface
Methods = { Elem end } => Methods
Named = ( @indexed Indexed | Plain )
Plain = ( @dotted Dotted | Name )
Dotted = Name '.' Name -> Selector
Indexed = Plain '[' Types ']' -> Index
Types = Type { @more ',' Type } [ ',' ] => Exprs
Field = ( EmbedStar | @embedded Embed | FieldOf )
EmbedStar = NamedStar String? -> Embed
NamedStar = '*' Named -> Star
Embed = Named String? -> Embed
FieldOf = Names Type String? -> Field
Elem = ( @method Method | Union )
Method = Name Signature -> Method

Exprs = Expr { ',' Expr } => Exprs
Unary = ( @'<-''chan' Primary | UnaryOf | Deref | Primary )
UnaryOf = ( '+'w | '-'w | '!'w | '^'w | '&'w | '<-'w ) Unary -> Unary
Deref = '*' Unary -> Star
Operand = ( Name | Lit | Paren | @literal FuncLit | @'func' FuncType | @typed Type | Refused )
Paren = '(' ^Expr ')' -> Paren
FuncLit = 'func' Signature ^Block -> FuncLit
Suffix = ( @'.''(''type' Guard | @'.''(' Assert | Selector | Call | @slice Slice | Index | Composite )
Guard = '.' '(' 'type' ')' +> Guard
Assert = '.' '(' Type ')' +> Assert
Selector = '.' Name +> Selector
Call = '(' Args [ @dots '...'w [ ',' ] ] ')' +> Call
Args = [ Expr { @more ',' Expr } [ ',' ] ] => Exprs
Index = '[' IndexExprs ']' +> Index
IndexExprs = Expr { @more ',' Expr } [ ',' ] => Exprs
Slice = '[' ( @':' none | Expr ) ':' ( @']' none none | Expr ( @':' ':' Expr | none ) ) ']' +> Slice
Composite = '{' Elems '}' +> Composite
Elems = [ Element { @more ',' Element } [ ',' ] ] => Elems
Element = ( @keyed KeyValue | Value )
KeyValue = Value ':' Value -> KeyValue
Value = ( Untold | Expr )
Untold = none '{' Elems '}' -> Composite

Stmts = { @stmtNext ( @';' Empty ';' | Stmt after ) } => Stmts
Empty = -> Empty
Block = '{' Stmts '}' -> Block
Stmt = ( @label Labeled | DeclStmt | Go | Defer | Return | Goto | Fallthrough | Break | Block | If | Switch | Select | For | Simple )
DeclStmt = GenDecl -> DeclStmt
Go = 'go' Expr -> Go
Defer = 'defer' Expr -> Defer
Return = 'return' ( @stmtEnds NoExprs | Exprs ) -> Return
NoExprs = => Exprs
Goto = 'goto'w Name -> Branch
Fallthrough = 'fallthrough'w none -> Branch
Break = ( 'break'w | 'continue'w ) Name? -> Branch
Labeled = Name ':' ( @stmtEnds Empty | Stmt ) -> Labeled
Simple = ( @badExprs Exprs | @assign Assign | @several Exprs Refused | @incDec IncDec | @send Send | ExprStmt )
Assign = Exprs ( '='w | ':='w | '+='w | '-='w | '*='w | '/='w | '%='w | '&='w | '|='w | '^='w | '<<='w | '>>='w | '&^='w ) Exprs -> Assign
IncDec = Expr ( '++'w | '--'w ) -> IncDec
Send = Expr '<-' Expr -> Send
ExprStmt = Expr -> ExprStmt
If = 'if' head+ ( @';' none ';' Expr | @first Simple ';' Expr | none Only ) head- Block ( @'else' 'else' ( If | Block ) | none ) -> If
Switch = ( @typeSwitch TypeSwitch | ExprSwitch )
ExprSwitch = 'switch' head+ ( @'{' none none | @';' none ';' ( @'{' none | Only ) | @first Simple ';' ( @'{' none | Only ) | none Only ) head- '{' Clauses '}' -> Switch
TypeSwitch = 'switch' head+ ( @';' none ';' Guarded | @first Simple ';' Guarded | none Guarded ) head- '{' TypeClauses '}' -> TypeSwitch
Clauses = { Clause } => Clauses
Clause = ( 'case' Exprs | 'default' none ) ':' Stmts -> Case
TypeClauses = { TypeClause } => Clauses
TypeClause = ( 'case' CaseTypes | 'default' none ) ':' Stmts -> Case
CaseTypes = Type { ',' Type } => Exprs
Select = 'select' '{' Comms '}' -> Select
Comms = { Comm } => Clauses
Comm = ( 'case' Simple | 'default' none ) ':' Stmts -> Comm
For = ( @'for''{' ForEver | @'for''range' RangeAlone | @forRange RangeOf | ForOf )
ForEver = 'for' none none none Block -> For
RangeAlone = 'for' none 'range' head+ Expr head- Block -> Range
RangeOf = 'for' head+ Exprs ( '='w | ':='w ) 'range' Expr head- Block -> Range
ForOf = 'for' head+ ( @';' none ';' ForRest | @first Simple ';' ForRest | none Only none ) head- Block -> For
ForRest = ( @';' none | Expr ) ';' ( @'{' none | Simple )
`

// goalRules are the rules of the goals, in order.
var goalRules = []string{"Type", "Expr", "Stmts", "File"}

// kinds are the names of the kinds of nodes, by their numbers.
var kinds = strings.Fields(`None File Decls GenOne GenMany ImportSpec ValueSpec TypeSpec FuncDecl Signature
	Names Exprs Elems Stmts Params Param TParams TParam Union Tilde Fields Field Embed Methods Method Clauses
	Name Lit Paren Selector Index Slice Assert Guard Call Star Unary Binary KeyValue Composite FuncLit
	Array Dots SliceOf MapOf ChanOf FuncType Struct Interface Empty ExprStmt Send IncDec Assign Go Defer
	Return Branch Block If Switch TypeSwitch Case Select Comm For Range Labeled DeclStmt`)

// levels are the operators, the loosest first.
var levels = [][]string{
	{"||"}, {"&&"}, {"==", "!=", "<", "<=", ">", ">="}, {"+", "-", "|", "^"},
	{"*", "/", "%", "<<", ">>", "&", "&^"},
}

// theRules are made once: they are the same for all texts.
var theRules = rulesOf(grammar)

// told is what the rules tell of a text.
func told(goal uint8, s string) ([]api.Node, api.Fault) {
	tokens, partners, fault := nest.Of(s)
	if fault != (api.Fault{}) {
		return nil, fault
	}
	m := &machine{rules: theRules, text: s, tokens: tokens, partners: partners}
	root, bad := m.whole(goal)
	if root != nil {
		return root.list(), api.Fault{}
	}
	at := len(s)
	if bad < len(tokens) {
		at = tokens[bad].From
	}
	return nil, api.Fault{Err: api.ErrSyntax, At: at}
}

// whole reads all tokens; if they aren't, it tells the one that isn't wanted.
func (m *machine) whole(goal uint8) (root *knot, bad int) {
	defer func() {
		if x := recover(); x != nil {
			root, bad = nil, int(x.(refused))
		}
	}()
	root = m.read(goalRules[goal-api.GType], nil)[0]
	if goal < api.GStmts && m.is(m.at, ";") {
		m.at++
	}
	if !m.is(m.at, "end") {
		m.refuse()
	}
	return root, 0
}

// The rules make each kind of node, and none names a rule that there isn't.
func TestTheRulesThemselves(t *testing.T) {
	made := map[uint8]bool{api.KNone: true, api.KName: true, api.KLit: true, api.KBinary: true}
	named := map[string]bool{}
	var each func(items []item)
	each = func(items []item) {
		for _, it := range items {
			if it.mark == "" && it.ways == nil {
				named[it.text] = true
			}
			for _, w := range it.ways {
				each(w.items)
			}
		}
	}
	for name, r := range theRules {
		each(r.items)
		made[r.kind] = true
		if r.kind > api.KLast || r.arrow != "" && r.kind == api.KNone {
			t.Errorf("%s makes %d", name, r.kind)
		}
	}
	for _, x := range strings.Fields("Name Lit String Expr Primary Only Guarded Refused none head+ head- end after") {
		delete(named, x)
	}
	for name := range named {
		if theRules[name].items == nil && theRules[name].arrow == "" {
			t.Errorf("there is no rule %s", name)
		}
	}
	if len(kinds) != int(api.KLast)+1 || len(made) != len(kinds) {
		t.Errorf("%d kinds, %d made", len(kinds), len(made))
	}
}

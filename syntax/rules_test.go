package syntax_test

import (
	"strconv"
	"strings"
	"testing"

	"emend/api"
	"emend/syntax"
)

// readTexts are texts for each rule, by the goal, and their terms. (As in the
// other tables, 's' stands for a raw string, and \n for a line's end.)
const readTexts = `
File
file package p -> File(p Decls() Decls())
file package p; -> File(p Decls() Decls())
file package p; import "a"; import "b"; var c d; func e() -> File(p Decls(GenOne.import(ImportSpec(- "a")) GenOne.import(ImportSpec(- "b"))) Decls(GenOne.var(ValueSpec(Names(c) d -)) FuncDecl(- e - Signature(Params() -) -)))
file package p; const a = 1; type b c -> File(p Decls() Decls(GenOne.const(ValueSpec(Names(a) - Exprs(1))) GenOne.type(TypeSpec(b - c))))

Import, ImportSpec
file package p; import () -> File(p Decls(GenMany.import()) Decls())
file package p; import ("a") -> File(p Decls(GenMany.import(ImportSpec(- "a"))) Decls())
file package p; import ("a";) -> File(p Decls(GenMany.import(ImportSpec(- "a"))) Decls())
file package p; import (a "b"; . "c"; _ "d"; "e") -> File(p Decls(GenMany.import(ImportSpec(a "b") ImportSpec..(- "c") ImportSpec(_ "d") ImportSpec(- "e"))) Decls())
file package p; import . "a" -> File(p Decls(GenOne.import(ImportSpec..(- "a"))) Decls())
file package p; import a "b" -> File(p Decls(GenOne.import(ImportSpec(a "b"))) Decls())

ConstSpec
stmts const a -> Stmts(DeclStmt(GenOne.const(ValueSpec(Names(a) - -))))
stmts const a, b = 1, c -> Stmts(DeclStmt(GenOne.const(ValueSpec(Names(a b) - Exprs(1 c)))))
stmts const a b = c -> Stmts(DeclStmt(GenOne.const(ValueSpec(Names(a) b Exprs(c)))))
stmts const () -> Stmts(DeclStmt(GenMany.const()))
stmts const (a = b; c) -> Stmts(DeclStmt(GenMany.const(ValueSpec(Names(a) - Exprs(b)) ValueSpec(Names(c) - -))))
stmts const (a []b = c; d; e, f;) -> Stmts(DeclStmt(GenMany.const(ValueSpec(Names(a) SliceOf(b) Exprs(c)) ValueSpec(Names(d) - -) ValueSpec(Names(e f) - -))))

VarSpec
stmts var a b -> Stmts(DeclStmt(GenOne.var(ValueSpec(Names(a) b -))))
stmts var a, b = c, d -> Stmts(DeclStmt(GenOne.var(ValueSpec(Names(a b) - Exprs(c d)))))
stmts var a, b []c = d -> Stmts(DeclStmt(GenOne.var(ValueSpec(Names(a b) SliceOf(c) Exprs(d)))))
stmts var () -> Stmts(DeclStmt(GenMany.var()))
stmts var (a b; c = d) -> Stmts(DeclStmt(GenMany.var(ValueSpec(Names(a) b -) ValueSpec(Names(c) - Exprs(d)))))

TypeSpec
stmts type a b -> Stmts(DeclStmt(GenOne.type(TypeSpec(a - b))))
stmts type a = b -> Stmts(DeclStmt(GenOne.type(TypeSpec.=(a - b))))
stmts type (a b; c = d;) -> Stmts(DeclStmt(GenMany.type(TypeSpec(a - b) TypeSpec.=(c - d))))
stmts type () -> Stmts(DeclStmt(GenMany.type()))
stmts type a[b c] d -> Stmts(DeclStmt(GenOne.type(TypeSpec(a TParams(TParam(Names(b) Union(c))) d))))
stmts type a[b c] = d -> Stmts(DeclStmt(GenOne.type(TypeSpec.=(a TParams(TParam(Names(b) Union(c))) d))))
stmts type a[b, c d] e -> Stmts(DeclStmt(GenOne.type(TypeSpec(a TParams(TParam(Names(b c) Union(d))) e))))
stmts type a[b ~c] d -> Stmts(DeclStmt(GenOne.type(TypeSpec(a TParams(TParam(Names(b) Union(Tilde(c)))) d))))
stmts type a[b interface{}] d -> Stmts(DeclStmt(GenOne.type(TypeSpec(a TParams(TParam(Names(b) Union(Interface(Methods())))) d))))
stmts type a[b func()] d -> Stmts(DeclStmt(GenOne.type(TypeSpec(a TParams(TParam(Names(b) Union(FuncType(Signature(Params() -))))) d))))
stmts type a[b map[c]d] e -> Stmts(DeclStmt(GenOne.type(TypeSpec(a TParams(TParam(Names(b) Union(MapOf(c d)))) e))))
stmts type a[b chan c] d -> Stmts(DeclStmt(GenOne.type(TypeSpec(a TParams(TParam(Names(b) Union(ChanOf.chan(c)))) d))))
stmts type a[b struct{}] d -> Stmts(DeclStmt(GenOne.type(TypeSpec(a TParams(TParam(Names(b) Union(Struct(Fields())))) d))))
stmts type a[b c | d, e f,] g -> Stmts(DeclStmt(GenOne.type(TypeSpec(a TParams(TParam(Names(b) Union(c d)) TParam(Names(e) Union(f))) g))))
stmts type a []b -> Stmts(DeclStmt(GenOne.type(TypeSpec(a - SliceOf(b)))))
stmts type a [1]b -> Stmts(DeclStmt(GenOne.type(TypeSpec(a - Array(1 b)))))
stmts type a [b]c -> Stmts(DeclStmt(GenOne.type(TypeSpec(a - Array(b c)))))
stmts type a [b * c]d -> Stmts(DeclStmt(GenOne.type(TypeSpec(a - Array(Binary.*(b c) d)))))
stmts type a [b(c)]d -> Stmts(DeclStmt(GenOne.type(TypeSpec(a - Array(Call(b Exprs(c)) d)))))
stmts type a [b[c]]d -> Stmts(DeclStmt(GenOne.type(TypeSpec(a - Array(Index(b Exprs(c)) d)))))
stmts type a [...]b -> Stmts(DeclStmt(GenOne.type(TypeSpec(a - Dots(b)))))

Func
file package p; func a() {} -> File(p Decls() Decls(FuncDecl(- a - Signature(Params() -) Block(Stmts()))))
file package p; func (a b) c() d { return } -> File(p Decls() Decls(FuncDecl(Params(Param(a b)) c - Signature(Params() d) Block(Stmts(Return(Exprs()))))))
file package p; func a[b c, d, e ~f|g](h b) -> File(p Decls() Decls(FuncDecl(- a TParams(TParam(Names(b) Union(c)) TParam(Names(d e) Union(Tilde(f) g))) Signature(Params(Param(h b)) -) -)))
file package p; func a[b []c, d *e](); func () f() -> File(p Decls() Decls(FuncDecl(- a TParams(TParam(Names(b) Union(SliceOf(c))) TParam(Names(d) Union(Star(e)))) Signature(Params() -) -) FuncDecl(Params() f - Signature(Params() -) -)))

Signature, Params, Param
type func() -> FuncType(Signature(Params() -))
type func() a -> FuncType(Signature(Params() a))
type func() (a) -> FuncType(Signature(Params() Params(Param(- a))))
type func() (a, b c) -> FuncType(Signature(Params() Params(Param(- a) Param(b c))))
type func() () -> FuncType(Signature(Params() Params()))
type func() []a -> FuncType(Signature(Params() SliceOf(a)))
type func() *a -> FuncType(Signature(Params() Star(a)))
type func() struct{} -> FuncType(Signature(Params() Struct(Fields())))
type func() map[a]b -> FuncType(Signature(Params() MapOf(a b)))
type func() chan a -> FuncType(Signature(Params() ChanOf.chan(a)))
type func() interface{} -> FuncType(Signature(Params() Interface(Methods())))
type func() func() -> FuncType(Signature(Params() FuncType(Signature(Params() -))))
type func() <-chan a -> FuncType(Signature(Params() ChanOf.<-chan(a)))
type func(a) -> FuncType(Signature(Params(Param(- a)) -))
type func(a,) -> FuncType(Signature(Params(Param(- a)) -))
type func(a, b) -> FuncType(Signature(Params(Param(- a) Param(- b)) -))
type func(a b, c d,) -> FuncType(Signature(Params(Param(a b) Param(c d)) -))
type func(a.b) -> FuncType(Signature(Params(Param(- Selector(a b))) -))
type func(a b.c) -> FuncType(Signature(Params(Param(a Selector(b c))) -))
type func(a ...b) -> FuncType(Signature(Params(Param....(a b)) -))
type func(...a) -> FuncType(Signature(Params(Param....(- a)) -))
type func(...[]a, b) -> FuncType(Signature(Params(Param....(- SliceOf(a)) Param(- b)) -))
type func(*a, []b, (c), func()) -> FuncType(Signature(Params(Param(- Star(a)) Param(- SliceOf(b)) Param(- Paren(c)) Param(- FuncType(Signature(Params() -)))) -))
type func(a []b) -> FuncType(Signature(Params(Param(a SliceOf(b))) -))
type func(a [1]b) -> FuncType(Signature(Params(Param(a Array(1 b))) -))
type func(a [b]c) -> FuncType(Signature(Params(Param(a Array(b c))) -))
type func(a[b]) -> FuncType(Signature(Params(Param(- Index(a Exprs(b)))) -))
type func(a[b, c], d[e]) -> FuncType(Signature(Params(Param(- Index(a Exprs(b c))) Param(- Index(d Exprs(e)))) -))
type func(a b[c]) -> FuncType(Signature(Params(Param(a Index(b Exprs(c)))) -))
type func(a func(b) c) -> FuncType(Signature(Params(Param(a FuncType(Signature(Params(Param(- b)) c)))) -))
type func(a *b, c chan d) -> FuncType(Signature(Params(Param(a Star(b)) Param(c ChanOf.chan(d))) -))
type func(a (b)) -> FuncType(Signature(Params(Param(a Paren(b))) -))

Type, Named
type a -> a
type a.b -> Selector(a b)
type a[b] -> Index(a Exprs(b))
type a.b[c, []d,] -> Index(Selector(a b) Exprs(c SliceOf(d)))
type a[b[c]] -> Index(a Exprs(Index(b Exprs(c))))
type *a -> Star(a)
type (a) -> Paren(a)
type []a -> SliceOf(a)
type [...]a -> Dots(a)
type [1]a -> Array(1 a)
type [a{}.b]c -> Array(Selector(Composite(a Elems()) b) c)
type [a + 1][]b -> Array(Binary.+(a 1) SliceOf(b))
type map[a]b -> MapOf(a b)
type map[[]a]map[b]c -> MapOf(SliceOf(a) MapOf(b c))
type chan a -> ChanOf.chan(a)
type chan<- a -> ChanOf.chan<-(a)
type <-chan a -> ChanOf.<-chan(a)
type chan <- chan a -> ChanOf.chan<-(ChanOf.chan(a))
type chan (<-chan a) -> ChanOf.chan(Paren(ChanOf.<-chan(a)))
type <-chan <-chan a -> ChanOf.<-chan(ChanOf.<-chan(a))
type chan chan<- a -> ChanOf.chan(ChanOf.chan<-(a))

Struct
type struct{} -> Struct(Fields())
type struct{ a b } -> Struct(Fields(Field(Names(a) b -)))
type struct{ a, b c; d []e; } -> Struct(Fields(Field(Names(a b) c -) Field(Names(d) SliceOf(e) -)))
type struct{ a b "c"; d e 's' } -> Struct(Fields(Field(Names(a) b "c") Field(Names(d) e 's')))
type struct{ a; *b; c.d; *e.f } -> Struct(Fields(Embed(a -) Embed(Star(b) -) Embed(Selector(c d) -) Embed(Star(Selector(e f)) -)))
type struct{ a "b"; *c "d"; e.f "g" } -> Struct(Fields(Embed(a "b") Embed(Star(c) "d") Embed(Selector(e f) "g")))
type struct{ a[b]; c[d, e] "f"; *g[h]; i[j] } -> Struct(Fields(Embed(Index(a Exprs(b)) -) Embed(Index(c Exprs(d e)) "f") Embed(Star(Index(g Exprs(h))) -) Embed(Index(i Exprs(j)) -)))
type struct{ a.b[c] } -> Struct(Fields(Embed(Index(Selector(a b) Exprs(c)) -)))
type struct{ a [1]b; c []d; e [f]g "h" } -> Struct(Fields(Field(Names(a) Array(1 b) -) Field(Names(c) SliceOf(d) -) Field(Names(e) Array(f g) "h")))
type struct{ a (b); c *d } -> Struct(Fields(Field(Names(a) Paren(b) -) Field(Names(c) Star(d) -)))
type struct{ a struct{ b; c } } -> Struct(Fields(Field(Names(a) Struct(Fields(Embed(b -) Embed(c -))) -)))

Interface
type interface{} -> Interface(Methods())
type interface{ a() } -> Interface(Methods(Method(a Signature(Params() -))))
type interface{ a(b) c; d; e.f; } -> Interface(Methods(Method(a Signature(Params(Param(- b)) c)) Union(d) Union(Selector(e f))))
type interface{ ~a | b; *c | ~[]d } -> Interface(Methods(Union(Tilde(a) b) Union(Star(c) Tilde(SliceOf(d)))))
type interface{ a[b] | interface{} } -> Interface(Methods(Union(Index(a Exprs(b)) Interface(Methods()))))
type interface{ (a) } -> Interface(Methods(Union(Paren(a))))

Expr, Unary
expr a + b + c -> Binary.+(Binary.+(a b) c)
expr a - b | c ^ d + e -> Binary.+(Binary.^(Binary.|(Binary.-(a b) c) d) e)
expr a * b / c % d << e >> f & g &^ h -> Binary.&^(Binary.&(Binary.>>(Binary.<<(Binary.%(Binary./(Binary.*(a b) c) d) e) f) g) h)
expr a == b != c < d <= e > f >= g -> Binary.>=(Binary.>(Binary.<=(Binary.<(Binary.!=(Binary.==(a b) c) d) e) f) g)
expr a || b && c == d + e * f -> Binary.||(a Binary.&&(b Binary.==(c Binary.+(d Binary.*(e f)))))
expr a * b + c == d && e || f -> Binary.||(Binary.&&(Binary.==(Binary.+(Binary.*(a b) c) d) e) f)
expr a && b || c && d || e -> Binary.||(Binary.||(Binary.&&(a b) Binary.&&(c d)) e)
expr a * (b + c) -> Binary.*(a Paren(Binary.+(b c)))
expr -a -> Unary.-(a)
expr + - ! ^ & <- * a -> Unary.+(Unary.-(Unary.!(Unary.^(Unary.&(Unary.<-(Star(a)))))))
expr -a.b -> Unary.-(Selector(a b))
expr -a * -b -> Binary.*(Unary.-(a) Unary.-(b))
expr a - -b -> Binary.-(a Unary.-(b))
expr *a.b * *c -> Binary.*(Star(Selector(a b)) Star(c))
expr <-a + <-b -> Binary.+(Unary.<-(a) Unary.<-(b))
expr <-chan a -> ChanOf.<-chan(a)
expr <-<-chan a -> Unary.<-(ChanOf.<-chan(a))
expr -<-chan a(b) -> Unary.-(Call(ChanOf.<-chan(a) Exprs(b)))
expr <-chan a(b) -> Call(ChanOf.<-chan(a) Exprs(b))
expr <-(chan a)(b) -> Unary.<-(Call(Paren(ChanOf.chan(a)) Exprs(b)))
expr & a{} -> Unary.&(Composite(a Elems()))

Operand
expr a -> a
expr 1 -> 1
expr 1.5 -> 1.5
expr 2i -> 2i
expr 'a' -> 'a'
expr "a" -> "a"
expr (a) -> Paren(a)
expr ((a)) -> Paren(Paren(a))
expr (*a) -> Paren(Star(a))
expr ([]a) -> Paren(SliceOf(a))
expr func() {} -> FuncLit(Signature(Params() -) Block(Stmts()))
expr func(a b) c { d } -> FuncLit(Signature(Params(Param(a b)) c) Block(Stmts(ExprStmt(d))))
expr func(a) b -> FuncType(Signature(Params(Param(- a)) b))
expr func() {}() -> Call(FuncLit(Signature(Params() -) Block(Stmts())) Exprs())
expr []a -> SliceOf(a)
expr [1]a -> Array(1 a)
expr [...]a -> Dots(a)
expr struct{} -> Struct(Fields())
expr map[a]b -> MapOf(a b)
expr chan a -> ChanOf.chan(a)
expr chan<- a -> ChanOf.chan<-(a)
expr interface{} -> Interface(Methods())
expr []a(b) -> Call(SliceOf(a) Exprs(b))
expr []a.b.c -> Selector(SliceOf(Selector(a b)) c)

A suffix
expr a.b.c -> Selector(Selector(a b) c)
expr a.(type) -> Guard(a)
expr a.(b) -> Assert(a b)
expr a.([]b).c -> Selector(Assert(a SliceOf(b)) c)
expr a.((b)) -> Assert(a Paren(b))
expr 1.5 .a -> Selector(1.5 a)
expr a() -> Call(a Exprs())
expr a(b) -> Call(a Exprs(b))
expr a(b,) -> Call(a Exprs(b))
expr a(b, []c, func()) -> Call(a Exprs(b SliceOf(c) FuncType(Signature(Params() -))))
expr a(b...) -> Call....(a Exprs(b))
expr a(b, c...,) -> Call....(a Exprs(b c))
expr a()()(b) -> Call(Call(Call(a Exprs()) Exprs()) Exprs(b))
expr a[b] -> Index(a Exprs(b))
expr a[b,] -> Index(a Exprs(b))
expr a[b, c, *d,] -> Index(a Exprs(b c Star(d)))
expr a[b][c] -> Index(Index(a Exprs(b)) Exprs(c))
expr a[:] -> Slice(a - - -)
expr a[b:] -> Slice(a b - -)
expr a[:b] -> Slice(a - b -)
expr a[b:c] -> Slice(a b c -)
expr a[:b:c] -> Slice(a - b c)
expr a[b:c:d] -> Slice(a b c d)
expr a[b + c:][:d()] -> Slice(Slice(a Binary.+(b c) - -) - Call(d Exprs()) -)

Elements
expr a{} -> Composite(a Elems())
expr a{b} -> Composite(a Elems(b))
expr a{b,} -> Composite(a Elems(b))
expr a{b: c, d: e} -> Composite(a Elems(KeyValue(b c) KeyValue(d e)))
expr a{{}} -> Composite(a Elems(Composite(- Elems())))
expr a{{b, c}: {d: {}}, {e}} -> Composite(a Elems(KeyValue(Composite(- Elems(b c)) Composite(- Elems(KeyValue(d Composite(- Elems()))))) Composite(- Elems(e))))
expr a.b{} -> Composite(Selector(a b) Elems())
expr a[b]{} -> Composite(Index(a Exprs(b)) Elems())
expr a.b[c, d]{} -> Composite(Index(Selector(a b) Exprs(c d)) Elems())
expr []a{} -> Composite(SliceOf(a) Elems())
expr [1]a{} -> Composite(Array(1 a) Elems())
expr [...]a{b} -> Composite(Dots(a) Elems(b))
expr map[a]b{c: d} -> Composite(MapOf(a b) Elems(KeyValue(c d)))
expr struct{ a }{b} -> Composite(Struct(Fields(Embed(a -))) Elems(b))
expr a{}.b -> Selector(Composite(a Elems()) b)
expr []a{}[b] -> Index(Composite(SliceOf(a) Elems()) Exprs(b))
expr a{b{}, c.d{}} -> Composite(a Elems(Composite(b Elems()) Composite(Selector(c d) Elems())))

A head
stmts if a {} -> Stmts(If(- a Block(Stmts()) -))
stmts if a.b {} -> Stmts(If(- Selector(a b) Block(Stmts()) -))
stmts if a[b] {} -> Stmts(If(- Index(a Exprs(b)) Block(Stmts()) -))
stmts if (a{}) {} -> Stmts(If(- Paren(Composite(a Elems())) Block(Stmts()) -))
stmts if a(b{}) {} -> Stmts(If(- Call(a Exprs(Composite(b Elems()))) Block(Stmts()) -))
stmts if a[b{}] {} -> Stmts(If(- Index(a Exprs(Composite(b Elems()))) Block(Stmts()) -))
stmts if a[b{}:c{}:d{}] {} -> Stmts(If(- Slice(a Composite(b Elems()) Composite(c Elems()) Composite(d Elems())) Block(Stmts()) -))
stmts if []a{} {} -> Stmts(If(- Composite(SliceOf(a) Elems()) Block(Stmts()) -))
stmts if []a{b{}} {} -> Stmts(If(- Composite(SliceOf(a) Elems(Composite(b Elems()))) Block(Stmts()) -))
stmts if [a{}]b{} {} -> Stmts(If(- Composite(Array(Composite(a Elems()) b) Elems()) Block(Stmts()) -))
stmts if map[a]b{} == c {} -> Stmts(If(- Binary.==(Composite(MapOf(a b) Elems()) c) Block(Stmts()) -))
stmts if struct{}{} == a {} -> Stmts(If(- Binary.==(Composite(Struct(Fields()) Elems()) a) Block(Stmts()) -))
stmts if func() { a{} }; b {} -> Stmts(If(ExprStmt(FuncLit(Signature(Params() -) Block(Stmts(ExprStmt(Composite(a Elems())))))) b Block(Stmts()) -))
stmts if func() {}() == a {} -> Stmts(If(- Binary.==(Call(FuncLit(Signature(Params() -) Block(Stmts())) Exprs()) a) Block(Stmts()) -))
stmts if a { b{} } -> Stmts(If(- a Block(Stmts(ExprStmt(Composite(b Elems())))) -))
stmts if a {} else { b{} } -> Stmts(If(- a Block(Stmts()) Block(Stmts(ExprStmt(Composite(b Elems()))))))
stmts if a { if b {} } else if c {} -> Stmts(If(- a Block(Stmts(If(- b Block(Stmts()) -))) If(- c Block(Stmts()) -)))
stmts switch a { case b{}: c{} } -> Stmts(Switch(- a Clauses(Case(Exprs(Composite(b Elems())) Stmts(ExprStmt(Composite(c Elems())))))))
stmts for a { b{} } -> Stmts(For(- a - Block(Stmts(ExprStmt(Composite(b Elems()))))))
stmts for ; a; b {} -> Stmts(For(- a ExprStmt(b) Block(Stmts())))
stmts for a = range b {} -> Stmts(Range.=(Exprs(a) b Block(Stmts())))
stmts select { case a{} <- b{}: } -> Stmts(Select(Clauses(Comm(Send(Composite(a Elems()) Composite(b Elems())) Stmts()))))
stmts if func() { for a {}; b{} }; c {} -> Stmts(If(ExprStmt(FuncLit(Signature(Params() -) Block(Stmts(For(- a - Block(Stmts())) ExprStmt(Composite(b Elems())))))) c Block(Stmts()) -))

Stmts
stmts -> Stmts()
stmts a -> Stmts(ExprStmt(a))
stmts a; -> Stmts(ExprStmt(a))
stmts ; -> Stmts(Empty())
stmts ;; -> Stmts(Empty() Empty())
stmts a;; b -> Stmts(ExprStmt(a) Empty() ExprStmt(b))
stmts a; b; c -> Stmts(ExprStmt(a) ExprStmt(b) ExprStmt(c))
stmts {} -> Stmts(Block(Stmts()))
stmts {;} -> Stmts(Block(Stmts(Empty())))
stmts {a; {b}; c} -> Stmts(Block(Stmts(ExprStmt(a) Block(Stmts(ExprStmt(b))) ExprStmt(c))))

Stmt
stmts go a() -> Stmts(Go(Call(a Exprs())))
stmts defer a -> Stmts(Defer(a))
stmts return -> Stmts(Return(Exprs()))
stmts return; -> Stmts(Return(Exprs()))
stmts {return} -> Stmts(Block(Stmts(Return(Exprs()))))
stmts return a, b -> Stmts(Return(Exprs(a b)))
stmts break; continue; fallthrough -> Stmts(Branch.break(-) Branch.continue(-) Branch.fallthrough(-))
stmts break a; continue b; goto c -> Stmts(Branch.break(a) Branch.continue(b) Branch.goto(c))
stmts {break} -> Stmts(Block(Stmts(Branch.break(-))))
stmts a: b -> Stmts(Labeled(a ExprStmt(b)))
stmts a: -> Stmts(Labeled(a Empty()))
stmts a:; b -> Stmts(Labeled(a Empty()) ExprStmt(b))
stmts {a:} -> Stmts(Block(Stmts(Labeled(a Empty()))))
stmts a: b: for {} -> Stmts(Labeled(a Labeled(b For(- - - Block(Stmts())))))
stmts a: {}; b: c := d -> Stmts(Labeled(a Block(Stmts())) Labeled(b Assign.:=(Exprs(c) Exprs(d))))
stmts func() {}() -> Stmts(ExprStmt(Call(FuncLit(Signature(Params() -) Block(Stmts())) Exprs())))
stmts a {} -> Stmts(ExprStmt(Composite(a Elems())))
stmts var a b; type c d -> Stmts(DeclStmt(GenOne.var(ValueSpec(Names(a) b -))) DeclStmt(GenOne.type(TypeSpec(c - d))))

Simple
stmts a, b = c, d -> Stmts(Assign.=(Exprs(a b) Exprs(c d)))
stmts a := b, c -> Stmts(Assign.:=(Exprs(a) Exprs(b c)))
stmts a.b := 1 -> Stmts(Assign.:=(Exprs(Selector(a b)) Exprs(1)))
stmts a += b; a -= b; a *= b; a /= b; a %= b -> Stmts(Assign.+=(Exprs(a) Exprs(b)) Assign.-=(Exprs(a) Exprs(b)) Assign.*=(Exprs(a) Exprs(b)) Assign./=(Exprs(a) Exprs(b)) Assign.%=(Exprs(a) Exprs(b)))
stmts a &= b; a |= b; a ^= b; a <<= b; a >>= b; a &^= b -> Stmts(Assign.&=(Exprs(a) Exprs(b)) Assign.|=(Exprs(a) Exprs(b)) Assign.^=(Exprs(a) Exprs(b)) Assign.<<=(Exprs(a) Exprs(b)) Assign.>>=(Exprs(a) Exprs(b)) Assign.&^=(Exprs(a) Exprs(b)))
stmts a, b += c -> Stmts(Assign.+=(Exprs(a b) Exprs(c)))
stmts a++; b[c]-- -> Stmts(IncDec.++(a) IncDec.--(Index(b Exprs(c))))
stmts a <- b; <-c -> Stmts(Send(a b) ExprStmt(Unary.<-(c)))
stmts a <- <-b -> Stmts(Send(a Unary.<-(b)))
stmts a + b <- c + d -> Stmts(Send(Binary.+(a b) Binary.+(c d)))
stmts *a = b -> Stmts(Assign.=(Exprs(Star(a)) Exprs(b)))
stmts a.(type) -> Stmts(ExprStmt(Guard(a)))

If
stmts if a := b; a {} -> Stmts(If(Assign.:=(Exprs(a) Exprs(b)) a Block(Stmts()) -))
stmts if ; a {} -> Stmts(If(- a Block(Stmts()) -))
stmts if a; b {} -> Stmts(If(ExprStmt(a) b Block(Stmts()) -))
stmts if a++; b {} -> Stmts(If(IncDec.++(a) b Block(Stmts()) -))
stmts if a {b} else {c} -> Stmts(If(- a Block(Stmts(ExprStmt(b))) Block(Stmts(ExprStmt(c)))))
stmts if a {} else if b {} else if c; d {} else {} -> Stmts(If(- a Block(Stmts()) If(- b Block(Stmts()) If(ExprStmt(c) d Block(Stmts()) Block(Stmts())))))

Switch
stmts switch {} -> Stmts(Switch(- - Clauses()))
stmts switch ; {} -> Stmts(Switch(- - Clauses()))
stmts switch a {} -> Stmts(Switch(- a Clauses()))
stmts switch ; a {} -> Stmts(Switch(- a Clauses()))
stmts switch a; {} -> Stmts(Switch(ExprStmt(a) - Clauses()))
stmts switch a := b; {} -> Stmts(Switch(Assign.:=(Exprs(a) Exprs(b)) - Clauses()))
stmts switch a = b; c {} -> Stmts(Switch(Assign.=(Exprs(a) Exprs(b)) c Clauses()))
stmts switch (a.(type)) {} -> Stmts(Switch(- Paren(Guard(a)) Clauses()))
stmts switch a.(type); b {} -> Stmts(Switch(ExprStmt(Guard(a)) b Clauses()))
stmts switch a := b.(type); c {} -> Stmts(Switch(Assign.:=(Exprs(a) Exprs(Guard(b))) c Clauses()))
stmts switch a.(type).b {} -> Stmts(Switch(- Selector(Guard(a) b) Clauses()))
stmts switch a { case b: c; case d, e: default: } -> Stmts(Switch(- a Clauses(Case(Exprs(b) Stmts(ExprStmt(c))) Case(Exprs(d e) Stmts()) Case(- Stmts()))))
stmts switch { default: a; b; case c: d: } -> Stmts(Switch(- - Clauses(Case(- Stmts(ExprStmt(a) ExprStmt(b))) Case(Exprs(c) Stmts(Labeled(d Empty()))))))
stmts switch { case a: ; b } -> Stmts(Switch(- - Clauses(Case(Exprs(a) Stmts(Empty() ExprStmt(b))))))
stmts switch { default: default: } -> Stmts(Switch(- - Clauses(Case(- Stmts()) Case(- Stmts()))))
stmts switch { case []a{}: } -> Stmts(Switch(- - Clauses(Case(Exprs(Composite(SliceOf(a) Elems())) Stmts()))))

KTypeSwitch
stmts switch a.(type) {} -> Stmts(TypeSwitch(- - a Clauses()))
stmts switch a := b.(type) {} -> Stmts(TypeSwitch(- a b Clauses()))
stmts switch ; a.(type) {} -> Stmts(TypeSwitch(- - a Clauses()))
stmts switch ; a := b.c().(type) {} -> Stmts(TypeSwitch(- a Call(Selector(b c) Exprs()) Clauses()))
stmts switch a; b.(type) {} -> Stmts(TypeSwitch(ExprStmt(a) - b Clauses()))
stmts switch a := b; c := d.(type) {} -> Stmts(TypeSwitch(Assign.:=(Exprs(a) Exprs(b)) c d Clauses()))
stmts switch a.(type); b.(type) {} -> Stmts(TypeSwitch(ExprStmt(Guard(a)) - b Clauses()))
stmts switch a.(type) { case b, []c, *d: e; case nil: default: f } -> Stmts(TypeSwitch(- - a Clauses(Case(Exprs(b SliceOf(c) Star(d)) Stmts(ExprStmt(e))) Case(Exprs(nil) Stmts()) Case(- Stmts(ExprStmt(f))))))
stmts switch a.(type) { case func(b) c, d[e], <-chan f: } -> Stmts(TypeSwitch(- - a Clauses(Case(Exprs(FuncType(Signature(Params(Param(- b)) c)) Index(d Exprs(e)) ChanOf.<-chan(f)) Stmts()))))

Select
stmts select {} -> Stmts(Select(Clauses()))
stmts select { case a <- b: c; case <-d: default: } -> Stmts(Select(Clauses(Comm(Send(a b) Stmts(ExprStmt(c))) Comm(ExprStmt(Unary.<-(d)) Stmts()) Comm(- Stmts()))))
stmts select { case a, b := <-c: ; case d = <-e: f; } -> Stmts(Select(Clauses(Comm(Assign.:=(Exprs(a b) Exprs(Unary.<-(c))) Stmts(Empty())) Comm(Assign.=(Exprs(d) Exprs(Unary.<-(e))) Stmts(ExprStmt(f))))))
stmts select { case a: case b++: } -> Stmts(Select(Clauses(Comm(ExprStmt(a) Stmts()) Comm(IncDec.++(b) Stmts()))))

For
stmts for {} -> Stmts(For(- - - Block(Stmts())))
stmts for a {} -> Stmts(For(- a - Block(Stmts())))
stmts for ;; {} -> Stmts(For(- - - Block(Stmts())))
stmts for a := 0; a < b; a++ {} -> Stmts(For(Assign.:=(Exprs(a) Exprs(0)) Binary.<(a b) IncDec.++(a) Block(Stmts())))
stmts for a;; {} -> Stmts(For(ExprStmt(a) - - Block(Stmts())))
stmts for ; a; {} -> Stmts(For(- a - Block(Stmts())))
stmts for ;; a {} -> Stmts(For(- - ExprStmt(a) Block(Stmts())))
stmts for a, b = c, d; ; a, b = b, a {} -> Stmts(For(Assign.=(Exprs(a b) Exprs(c d)) - Assign.=(Exprs(a b) Exprs(b a)) Block(Stmts())))
stmts for a <- b; <-c; d <- e {} -> Stmts(For(Send(a b) Unary.<-(c) Send(d e) Block(Stmts())))
stmts for range a {} -> Stmts(Range(- a Block(Stmts())))
stmts for a := range b {} -> Stmts(Range.:=(Exprs(a) b Block(Stmts())))
stmts for a, b = range c() {d} -> Stmts(Range.=(Exprs(a b) Call(c Exprs()) Block(Stmts(ExprStmt(d)))))
stmts for a, b, c := range d {} -> Stmts(Range.:=(Exprs(a b c) d Block(Stmts())))
stmts for a.b, c[d] = range []e{} {} -> Stmts(Range.=(Exprs(Selector(a b) Index(c Exprs(d))) Composite(SliceOf(e) Elems()) Block(Stmts())))
stmts for a = b; ; {} -> Stmts(For(Assign.=(Exprs(a) Exprs(b)) - - Block(Stmts())))
`

// nodesOfTexts are texts, by the goal, and the nodes of each: the kind, the
// tokens, and the word of those that have one, other than names and literals.
const nodesOfTexts = `
stmts -> Stmts 0-0
stmts ; -> Stmts 0-0, Empty 0-0
stmts a; -> Stmts 0-1, ExprStmt 0-1, Name 0-1
stmts ; a ; -> Stmts 0-2, Empty 0-0, ExprStmt 1-2, Name 1-2
stmts a; ; b; -> Stmts 0-4, ExprStmt 0-1, Name 0-1, Empty 2-2, ExprStmt 3-4, Name 3-4
file package p; -> File 0-3, Name 1-2, Decls 3-3, Decls 3-3
file package p; import "a"; var b c; -> File 0-10, Name 1-2, Decls 3-5, GenOne 3-5 w3, ImportSpec 4-5, None 4-4, Lit 4-5, Decls 6-9, GenOne 6-9 w6, ValueSpec 7-9, Names 7-8, Name 7-8, Name 8-9, None 9-9
file package p; import . "a" -> File 0-7, Name 1-2, Decls 3-6, GenOne 3-6 w3, ImportSpec 4-6 w4, None 4-4, Lit 5-6, Decls 7-7
file package p; import (a "b";); func c() -> File 0-15, Name 1-2, Decls 3-9, GenMany 3-9 w3, ImportSpec 5-7, Name 5-6, Lit 6-7, Decls 10-14, FuncDecl 10-14, None 11-11, Name 11-12, None 12-12, Signature 12-14, Params 12-14, None 14-14, None 14-14
stmts var a = b -> Stmts 0-4, DeclStmt 0-4, GenOne 0-4 w0, ValueSpec 1-4, Names 1-2, Name 1-2, None 2-2, Exprs 3-4, Name 3-4
stmts var a b -> Stmts 0-3, DeclStmt 0-3, GenOne 0-3 w0, ValueSpec 1-3, Names 1-2, Name 1-2, Name 2-3, None 3-3
stmts const a -> Stmts 0-2, DeclStmt 0-2, GenOne 0-2 w0, ValueSpec 1-2, Names 1-2, Name 1-2, None 2-2, None 2-2
stmts const (a;) -> Stmts 0-5, DeclStmt 0-5, GenMany 0-5 w0, ValueSpec 2-3, Names 2-3, Name 2-3, None 3-3, None 3-3
stmts type a = b -> Stmts 0-4, DeclStmt 0-4, GenOne 0-4 w0, TypeSpec 1-4 w2, Name 1-2, None 2-2, Name 3-4
stmts type a[b, c d,] e -> Stmts 0-10, DeclStmt 0-10, GenOne 0-10 w0, TypeSpec 1-10, Name 1-2, TParams 2-9, TParam 3-7, Names 3-6, Name 3-4, Name 5-6, Union 6-7, Name 6-7, Name 9-10
file package p; func (a b) c[d e](f ...g) (h,) {} -> File 0-25, Name 1-2, Decls 3-3, Decls 3-24, FuncDecl 3-24, Params 4-8, Param 5-7, Name 5-6, Name 6-7, Name 8-9, TParams 9-13, TParam 10-12, Names 10-11, Name 10-11, Union 11-12, Name 11-12, Signature 13-22, Params 13-18, Param 14-17 w15, Name 14-15, Name 16-17, Params 18-22, Param 19-20, None 19-19, Name 19-20, Block 22-24, Stmts 23-23
type func() -> FuncType 0-3, Signature 1-3, Params 1-3, None 3-3
type func(...a) -> FuncType 0-5, Signature 1-5, Params 1-5, Param 2-4 w2, None 2-2, Name 3-4, None 5-5
type func(a, ...b) -> FuncType 0-7, Signature 1-7, Params 1-7, Param 2-3, None 2-2, Name 2-3, Param 4-6 w4, None 4-4, Name 5-6, None 7-7
type func(a,) b -> FuncType 0-6, Signature 1-6, Params 1-5, Param 2-3, None 2-2, Name 2-3, Name 5-6
type struct {} -> Struct 0-3, Fields 2-2
type struct { a, b c; } -> Struct 0-8, Fields 2-6, Field 2-6, Names 2-5, Name 2-3, Name 4-5, Name 5-6, None 6-6
type struct { a; *b "c"; d.e } -> Struct 0-12, Fields 2-11, Embed 2-3, Name 2-3, None 3-3, Embed 4-7, Star 4-6, Name 5-6, Lit 6-7, Embed 8-11, Selector 8-11, Name 8-9, Name 10-11, None 11-11
type interface {} -> Interface 0-3, Methods 2-2
type interface { a(); ~b | c; } -> Interface 0-12, Methods 2-10, Method 2-5, Name 2-3, Signature 3-5, Params 3-5, None 5-5, Union 6-10, Tilde 6-8, Name 7-8, Name 9-10
type a.b[c, d,] -> Index 0-9, Selector 0-3, Name 0-1, Name 2-3, Exprs 4-7, Name 4-5, Name 6-7
type chan <- a -> ChanOf 0-3 w0, Name 2-3
type <- chan a -> ChanOf 0-3 w0, Name 2-3
expr a() -> Call 0-3, Name 0-1, Exprs 2-2
expr a(b, c...,) -> Call 0-8 w5, Name 0-1, Exprs 2-5, Name 2-3, Name 4-5
expr a[b, c,] -> Index 0-7, Name 0-1, Exprs 2-5, Name 2-3, Name 4-5
expr a[:] -> Slice 0-4, Name 0-1, None 2-2, None 3-3, None 3-3
expr a[b:] -> Slice 0-5, Name 0-1, Name 2-3, None 4-4, None 4-4
expr a[:c] -> Slice 0-5, Name 0-1, None 2-2, Name 3-4, None 4-4
expr a[b:c:d] -> Slice 0-8, Name 0-1, Name 2-3, Name 4-5, Name 6-7
expr a{} -> Composite 0-3, Name 0-1, Elems 2-2
expr a{b: c, {},} -> Composite 0-10, Name 0-1, Elems 2-8, KeyValue 2-5, Name 2-3, Name 4-5, Composite 6-8, None 6-6, Elems 7-7
expr a.(type) -> Guard 0-5, Name 0-1
expr a.(b) -> Assert 0-5, Name 0-1, Name 3-4
expr -a * *b -> Binary 0-5 w2, Unary 0-2 w0, Name 1-2, Star 3-5, Name 4-5
expr (a + b) - c -> Binary 0-7 w5, Paren 0-5, Binary 1-4 w2, Name 1-2, Name 3-4, Name 6-7
expr func() {} -> FuncLit 0-5, Signature 1-3, Params 1-3, None 3-3, Block 3-5, Stmts 4-4
stmts return -> Stmts 0-1, Return 0-1, Exprs 1-1
stmts return a, b -> Stmts 0-4, Return 0-4, Exprs 1-4, Name 1-2, Name 3-4
stmts break -> Stmts 0-1, Branch 0-1 w0, None 1-1
stmts goto a -> Stmts 0-2, Branch 0-2 w0, Name 1-2
stmts fallthrough -> Stmts 0-1, Branch 0-1 w0, None 1-1
stmts a: -> Stmts 0-2, Labeled 0-2, Name 0-1, Empty 2-2
stmts a: b -> Stmts 0-3, Labeled 0-3, Name 0-1, ExprStmt 2-3, Name 2-3
stmts a:; b -> Stmts 0-4, Labeled 0-2, Name 0-1, Empty 2-2, ExprStmt 3-4, Name 3-4
stmts a, b = c -> Stmts 0-5, Assign 0-5 w3, Exprs 0-3, Name 0-1, Name 2-3, Exprs 4-5, Name 4-5
stmts a++ -> Stmts 0-2, IncDec 0-2 w1, Name 0-1
stmts a <- b -> Stmts 0-3, Send 0-3, Name 0-1, Name 2-3
stmts go a -> Stmts 0-2, Go 0-2, Name 1-2
stmts if a {} -> Stmts 0-4, If 0-4, None 1-1, Name 1-2, Block 2-4, Stmts 3-3, None 4-4
stmts if ; a {} -> Stmts 0-5, If 0-5, None 1-1, Name 2-3, Block 3-5, Stmts 4-4, None 5-5
stmts if a; b {} else {} -> Stmts 0-9, If 0-9, ExprStmt 1-2, Name 1-2, Name 3-4, Block 4-6, Stmts 5-5, Block 7-9, Stmts 8-8
stmts switch {} -> Stmts 0-3, Switch 0-3, None 1-1, None 1-1, Clauses 2-2
stmts switch ; {} -> Stmts 0-4, Switch 0-4, None 1-1, None 2-2, Clauses 3-3
stmts switch a {} -> Stmts 0-4, Switch 0-4, None 1-1, Name 1-2, Clauses 3-3
stmts switch a; {} -> Stmts 0-5, Switch 0-5, ExprStmt 1-2, Name 1-2, None 3-3, Clauses 4-4
stmts switch ; a {} -> Stmts 0-5, Switch 0-5, None 1-1, Name 2-3, Clauses 4-4
stmts switch a; b { case c, d: e; default: ; } -> Stmts 0-16, Switch 0-16, ExprStmt 1-2, Name 1-2, Name 3-4, Clauses 5-15, Case 5-12, Exprs 6-9, Name 6-7, Name 8-9, Stmts 10-11, ExprStmt 10-11, Name 10-11, Case 12-15, None 13-13, Stmts 14-14, Empty 14-14
stmts switch a.(type) { case b: } -> Stmts 0-11, TypeSwitch 0-11, None 1-1, None 1-1, Name 1-2, Clauses 7-10, Case 7-10, Exprs 8-9, Name 8-9, Stmts 10-10
stmts switch ; a.(type) {} -> Stmts 0-9, TypeSwitch 0-9, None 1-1, None 2-2, Name 2-3, Clauses 8-8
stmts switch a := b; c := d.(type) {} -> Stmts 0-14, TypeSwitch 0-14, Assign 1-4 w2, Exprs 1-2, Name 1-2, Exprs 3-4, Name 3-4, Name 5-6, Name 7-8, Clauses 13-13
stmts select { case a: ; default: b; } -> Stmts 0-11, Select 0-11, Clauses 2-10, Comm 2-6, ExprStmt 3-4, Name 3-4, Stmts 5-5, Empty 5-5, Comm 6-10, None 7-7, Stmts 8-9, ExprStmt 8-9, Name 8-9
stmts for {} -> Stmts 0-3, For 0-3, None 1-1, None 1-1, None 1-1, Block 1-3, Stmts 2-2
stmts for a {} -> Stmts 0-4, For 0-4, None 1-1, Name 1-2, None 2-2, Block 2-4, Stmts 3-3
stmts for ;; {} -> Stmts 0-5, For 0-5, None 1-1, None 2-2, None 3-3, Block 3-5, Stmts 4-4
stmts for a; b; c {} -> Stmts 0-8, For 0-8, ExprStmt 1-2, Name 1-2, Name 3-4, ExprStmt 5-6, Name 5-6, Block 6-8, Stmts 7-7
stmts for range a {} -> Stmts 0-5, Range 0-5, None 1-1, Name 2-3, Block 3-5, Stmts 4-4
stmts for a, b := range c {} -> Stmts 0-9, Range 0-9 w4, Exprs 1-4, Name 1-2, Name 3-4, Name 6-7, Block 7-9, Stmts 8-8
`

// refusedTexts are texts that aren't read, by the goal; at the token at which
// the fault is stands a #.
const refusedTexts = `
File
file #
file #a
file #import "a"
file package#
file package #;
file package #func
file package #1
file package a#.b
file package a; #a
file package a; #1
file package a; #;
file package a; import#
file package a; import "b" #"c"
file package a; import "b"; import "c"; func d(); #import "e"
file package a; func b() {} #func c() {}
file package a; func b() {}; #; func c() {}
file package a; var b c; #b = d
file package a; func b(); #if c {}
file package a; #go b()
file \n\n#
file package a #import "b"

Import, ImportSpec
file package p; import #1
file package p; import a #b
file package p; import a #. "b"
file package p; import . #.
file package p; import . #a "b"
file package p; import .#;
file package p; import a#
file package p; import (#;)
file package p; import ("a" #"b")
file package p; import ("a";#;)
file package p; import ("a"#, "b")
file package p; import ("a") #"b"
file package p; import #'a'
stmts #import "a"

ConstSpec
stmts const #=
stmts const #1
stmts const a =#
stmts const a, #= 1
stmts const a b#
stmts const a b#; c
stmts const a = #;
stmts const a #+ b
stmts {const a#}
stmts const (a b#)
stmts const (#;)
stmts const (a = b #c)
stmts const (a = b;#; c)
stmts const a #:= b
stmts const a b #c = d
stmts const a, b c#, d = e
stmts const #.

VarSpec
stmts var #= 1
stmts var a#
stmts var a#;
stmts {var a#}
stmts var (a#)
stmts var (a b #c)
stmts var a, b#
stmts var a b = c #d
stmts var a b =#
stmts var a #== b
stmts var a b #:= c
stmts var a b#, c
stmts var (a b = c, d #= e)

TypeSpec
stmts type #[b c] d
stmts type a#
stmts type a#;
stmts type a =#
stmts type a = #= b
stmts type a #:= b
stmts type a#, b c
stmts type a[b c]#
stmts type a[b,#] c
stmts type a[b, c#] d
stmts type a[b c,#,] d
stmts type a[b [#]c] d
stmts type a[b *c#,] d
stmts type a[b.c #d] e
stmts type a[b c | #] d
stmts type a[b ~ #~c] d
stmts type a[b c #d] e
stmts type a[b c #(d)] e
stmts type a[b c #= d] e
stmts type a b #c
stmts type (a b #c)
stmts type (a b#,)
stmts type a[]#
stmts type a[1 #c] d

Func
file package p; func #{}
file package p; func a#
file package p; func a #{}
file package p; func a[#]()
file package p; func a[b#]()
file package p; func a[b c, #1]()
file package p; func a[b c #(d)]()
file package p; func a[b c,#,]()
file package p; func a[b,#]()
file package p; func (a) #(b) ()
file package p; func (a b) #(c)
file package p; func a() b #c
file package p; func a() {} #()
file package p; func a#.b()
file package p; func a() {}#.b
file package p; func ()#
file package p; func a(b c) { d #e }

Signature, Params, Param
type func#
type func #a
type func ( #, )
type func (a b,#,)
type func (a b #c)
type func (a,b c #d)
type func (a b#; c d)
type func (a ... #)
type func (...#)
type func (a.b #c)
type func (a.b#...)
type func (a[b] c #d)
type func (a[#1])
type func (a[] #)
type func (a[]b #c)
type func (#1)
type func (a #= b)
type func (a ...b #...c)
type func (... a #b)
type func () #+
type func () a #b
type func () (a) #b
type func () <- #a
type func (#~a)
type func (a[b]#.c)
type func (a... #, b)
type func (a)(b)#(c)

Type, Named
type #
type #1
type #"a"
type #+
type a.#
type a#.1
type a.b#.c
type a.#(b)
type a[#]
type a[#1]
type a[#,]
type a[b,#,]
type a[b]#[c]
type a[b#;]
type a #b
type a#{}
type *#
type #-a
type (#)
type (a#, b)
type []#
type [] []#
type [a]#
type [a#, b]c
type [a#:b]c
type [...]#
type [... #a]b
type [...]a #b
type [#.]a
type [] #=
type map#
type map #a
type map[#]a
type map[a]#
type map[a#, b]c
type chan#
type chan <-#
type chan #-> a
type chan chan#
type <-#
type <- #a
type <- #<- chan a
type struct#
type struct #a
type interface#
type interface#(a)
type func() #{}
type #...a
type #~a
type a #| b
type #if

Struct
type struct { a, #}
type struct { a b #c }
type struct { a b#, c d }
type struct { #; }
type struct { a;#; }
type struct { a b; #; }
type struct { #1 }
type struct { #"a" }
type struct { *#}
type struct { *#*a }
type struct { *#[]a }
type struct { *#(a) }
type struct { *a #b }
type struct { #(a) }
type struct { #[]a }
type struct { #func() }
type struct { a.b #c }
type struct { a.b#.c }
type struct { a "b" #"c" }
type struct { a b #1 }
type struct { a b "c" #"d" }
type struct { a b #= c }
type struct { a, b #}
type struct { a, b #"c" }
type struct { a[] #}
type struct { a[#1] }
type struct { a[b] #. c }
type struct { a[b]#, c }
type struct { a(#) }
type struct { #~a }
type struct { a #'b' }
type struct { *a.b#.c }
type struct { *a#, b c }

Interface
type interface { a #b }
type interface { a#, b }
type interface { a | #}
type interface { #| a }
type interface { a #|| b }
type interface { ~ #}
type interface { ~#~a }
type interface { a() b #c }
type interface { #; }
type interface { a;#; }
type interface { #1 }
type interface { a #"b" }
type interface { a#, b() }
type interface { a.b#() }
type interface { ~a#() }
type interface { #-a }

Expr, Unary
expr #
expr +#
expr a +#
expr a + +#
expr a + #/ b
expr *#
expr a *#
expr a #b
expr a #= b
expr a #:= b
expr a#, b
expr a#++
expr a ||#
expr #|| a
expr a #! b
expr a #~ b
expr #~a
expr a &^#
expr a #<- b
expr <-#
expr <- chan#
expr - <- chan#
expr a && #&& b
expr a == #== b
expr a;#b
expr #%a
expr a #: b
expr a #... b
expr #== a

Operand
expr (#)
expr (a#, b)
expr (a#;)
expr (a #b)
expr (a #= b)
expr (a #:= b)
expr func#
expr func #a() {}
expr func() { a #b }
expr func() {} #{}
expr func() [a]#
expr []#
expr []#1
expr []a #b
expr []a.#(b)
expr []a[#1]
expr [...]#
expr struct #a {}
expr struct#
expr map[a]#
expr interface#
expr chan#
expr chan <-#
expr #if
expr #type
expr #.a
expr #...
expr #{}
expr #;
expr #,
expr #range a
expr #package
expr a #:= 1
expr *[]#
expr []a +#

A suffix
expr a.#
expr a#.1
expr a.#.b
expr a.(#)
expr a.(type#,)
expr a.(type#.b)
expr a.(b#, c)
expr a.(#1)
expr a.(b.c#.d)
expr a.#type
expr a.#"b"
expr a.#[b]
expr a(#,)
expr a(b #c)
expr a(b,#,)
expr a(b#;)
expr a(#...)
expr a(b, #...)
expr a(b... #c)
expr a(b..., #c)
expr a(b...,#,)
expr a(b... #...)
expr a(b #= c)
expr a(b#: c)
expr a[#]
expr a[#,]
expr a[b #c]
expr a[b,#,]
expr a[b#;]
expr a[:#:]
expr a[:b:#]
expr a[b:#:]
expr a[b:#:c]
expr a[:#:c]
expr a[b:c:d#:e]
expr a[b:c#, d]
expr a[b, c#:d]
expr a[b, #:]
expr a[:#,]
expr a[:b #c]
expr a[b:c:d #e]
expr a[#...]
expr a[b#...]
expr a{}#{}
expr a()#{}
expr (a)#{}
expr a.b.c#{}
expr a[b][c]#{}
expr a[b].c#{}
expr a[:]#{}
expr a.(b)#{}
expr 1#{}
expr *a{} #{}
expr chan a #{}
expr func() {} #{a}
expr interface{}#{}
expr []a{}#{}
expr a{}.b#{}

Elements
expr a{#,}
expr a{b #c}
expr a{b,#,}
expr a{b#;}
expr a{b#\n}
expr a{#:}
expr a{b:#}
expr a{#:b}
expr a{b:c#:d}
expr a{b:#,}
expr a{{} #{}}
expr a{{}#.b}
expr a{b #= c}
expr a{b#...}
expr a{{b #c}}
expr a{b: {c #d}}
expr a{#...}

A head
stmts if a {} #{}
stmts if a{} #== b {}
stmts if a.b{} #{}
stmts if a[b]{} #{}
stmts if b := a#{} ; c {}
stmts if -a{} #{}
stmts if a{b: c} #{}
stmts for a := range b{} #{}
stmts for a{} #{}
stmts for ;; a{} #{}
stmts switch a{} #{}
stmts switch a{}#.(type) {}
stmts if []a{}#
stmts for []a {}#
stmts for ; []a {}#
stmts if struct{} {}#
stmts if map[a]b {}#
stmts if [1]a {}#
stmts if func() {}#
stmts if a, b#{} {}
stmts switch a := b#{}; {}
stmts if a(b){} #{}

Stmts
stmts a #b
stmts {a #b}
stmts {a} #b
stmts {} #{}
stmts #case
stmts #default
stmts a; #case b:
stmts {#case a:}
stmts {#default:}
stmts a,#
stmts #,
stmts if a {} #b
stmts a := b #c
stmts #else
stmts a {} #else {}
stmts return a #b
stmts func #a() {}
stmts #import "a"
stmts #package a
stmts #range a
stmts chan#
stmts a; b #c; d

Stmt
stmts go#
stmts go#;
stmts go a#, b
stmts go a #= b
stmts defer#
stmts defer a; defer#
stmts return #,
stmts return a,#
stmts return a #= b
stmts break #1
stmts break a #b
stmts break a#.b
stmts continue #,
stmts goto#
stmts goto#;
stmts goto #1
stmts goto a#.b
stmts fallthrough #a
stmts a: #else
stmts a: #case
stmts a: b #c
stmts a: #: b
stmts a.b#: c
stmts 1#: a
stmts if#:
stmts var#
stmts const#
stmts type#
stmts {a: b #c}
stmts go #{}

Simple
stmts a, b#
stmts a, b#++
stmts a, b #<- c
stmts a, b#;
stmts a =#
stmts a = #;
stmts a = b #= c
stmts a :=#
stmts a := b #:= c
stmts a += b #+= c
stmts a++ #b
stmts a++ #++
stmts #++a
stmts a <-#
stmts a <- b #<- c
stmts a <- b#, c
stmts a, #= b
stmts a = b,#
stmts a, b = c #d
stmts a = #= b
stmts a ==#
stmts a++ #= b
stmts a #... b
stmts a =#: b
stmts a, b {}#
stmts (a#, b) = c

If
stmts if#
stmts if #{}
stmts if a#
stmts if a;#
stmts if ; #{}
stmts if ;#
stmts if ;#; {}
stmts if a; #{}
stmts if a;#; {}
stmts if a; b#; {}
stmts if a; b #c {}
stmts if a = b #{}
stmts if a := b #{}
stmts if a++ #{}
stmts if a <- b #{}
stmts if a, b #{}
stmts if a = b #c {}
stmts if a #b {}
stmts if a; b #= c {}
stmts if a; b#++ {}
stmts if a; b#, c {}
stmts if a \n#{}
stmts if a {} else#
stmts if a {} else #b
stmts if a {} else #;
stmts if a {} else #for {}
stmts if a {} else {} #else {}
stmts if a {} \n#else {}
stmts if a {}; #else {}
stmts if a {} else if #{}
stmts if a {} else if b#
stmts if #var a b; c {}
stmts if #if a {} {}
stmts if a#: b {}

Switch
stmts switch#
stmts switch a#
stmts switch a;#
stmts switch ;#
stmts switch ;#; {}
stmts switch a;#; {}
stmts switch a; b#; {}
stmts switch a #b {}
stmts switch a, b #{}
stmts switch a = b #{}
stmts switch a := b #{}
stmts switch a++ #{}
stmts switch a <- b #{}
stmts switch a; b = c #{}
stmts switch a; b := c #{}
stmts switch a; b++ #{}
stmts switch ; a := b #{}
stmts switch a = b #c {}
stmts switch {#a}
stmts switch {#;}
stmts switch { case#: }
stmts switch { case a #}
stmts switch { case a, #: }
stmts switch { case a#; b: }
stmts switch { case a #= b: }
stmts switch { default #}
stmts switch { default #a: }
stmts switch { case a: b #c }
stmts switch { case a: b #case c: }
stmts switch { case a: b #default: }
stmts switch { case a: case b #}
stmts switch { case a #:= b: }
stmts switch { #a: }
stmts switch { case a: } #b
stmts switch { case a: } #else {}

KTypeSwitch
stmts switch a = b.(type) #{}
stmts switch a, b := c.(type) #{}
stmts switch a := b.(type), c #{}
stmts switch (a) := b.(type) #{}
stmts switch a.b := c.(type) #{}
stmts switch a := (b.(type)) #{}
stmts switch a := b.(type).c #{}
stmts switch 1 := b.(type) #{}
stmts switch _ := 1 #{}
stmts switch a += b.(type) #{}
stmts switch a <- b.(type) #{}
stmts switch a.(type)++ #{}
stmts switch a; b = c.(type) #{}
stmts switch a.(type) { case #1: }
stmts switch a.(type) { case b #+ c: }
stmts switch a.(type) { case b.c#.d: }
stmts switch a.(type) { case b, #: }
stmts switch a.(type) { case #: }
stmts switch a.(type) { case []b#{}: }
stmts switch a.(type) { case b#(c): }
stmts switch a.(type) { case b: c #d }
stmts switch a.(type) { default: ; } #b
stmts switch a.(type) {}; #case b:
stmts switch a.(type), b #{}
stmts switch a := b.(type) #c {}

Select
stmts select#
stmts select #a {}
stmts select #; {}
stmts select {#a}
stmts select {#;}
stmts select { case#: }
stmts select { case a, b#: }
stmts select { case <-a #}
stmts select { case a = #: }
stmts select { case a <- b#, c: }
stmts select { case <-a#; b: }
stmts select { default #a: }
stmts select { default #}
stmts select { case a: b #case c: }
stmts select { case #var a b: }
stmts select { case a: b: c #d }
stmts select { case a #}

For
stmts for#
stmts for ;#
stmts for ;;#
stmts for ; #{}
stmts for a; #{}
stmts for a; b #{}
stmts for ; a #{}
stmts for a; b; c#; {}
stmts for ;;#; {}
stmts for ;; a #b {}
stmts for ;; a#; {}
stmts for ;; #var a b {}
stmts for ;; #go a {}
stmts for ;; #if a {} {}
stmts for ;; a#: b {}
stmts for ;; {} #{}
stmts for a#
stmts for a #b {}
stmts for a, b #{}
stmts for a = b #{}
stmts for a := b #{}
stmts for a++ #{}
stmts for a <- b #{}
stmts for a = b #c {}
stmts for a; b #= c; d {}
stmts for a; b#, c; d {}
stmts for a; b; c, d #{}
stmts for range #{}
stmts for range#
stmts for range a#
stmts for range a#, b {}
stmts for range a#; b {}
stmts for a #range b {}
stmts for a, b #range c {}
stmts for a += #range b {}
stmts for a := range b#, c {}
stmts for a := range #{}
stmts for a := range b #= c {}
stmts for a := b #range c {}
stmts for a := range b#; c; d {}
stmts for a; #range b; c {}
stmts for ; a #:= range b; {}
stmts for ;; a = #range b {}
stmts for #= range a {}
stmts for #:= range a {}
stmts for a, #= range b {}
stmts for {} #{}
stmts for {} #else {}
stmts for a := range #range b {}
stmts for #var a = b; ; {}
stmts a = #range b
stmts if a = #range b {}
`

// rows hands the rows of a table to do, and tells how many there are.
func rows(table string, do func(goal uint8, s, want string)) int {
	n := 0
	plain := strings.NewReplacer("'s'", "`s`", `\n`, "\n").Replace
	for _, line := range strings.Split(table, "\n") {
		name, rest, _ := strings.Cut(line, " ")
		if goal := goals[name]; goal != 0 {
			n++
			s, want, _ := strings.Cut(" "+rest, " -> ")
			do(goal, plain(strings.TrimPrefix(s, " ")), plain(want))
		}
	}
	return n
}

func TestTextsThatAreRead(t *testing.T) {
	if n := rows(readTexts, func(goal uint8, s, want string) { checkRead(t, goal, s, want) }); n < 300 {
		t.Errorf("%d rows", n)
	}
}

func TestTextsThatAreRefused(t *testing.T) {
	n := rows(refusedTexts, func(goal uint8, s, _ string) {
		ahead, behind, _ := strings.Cut(s, "#")
		checkFault(t, goal, ahead+behind, api.Fault{Err: api.ErrSyntax, At: len(ahead)})
		check(t, goal, ahead+behind)
	})
	if n < 500 {
		t.Errorf("%d rows", n)
	}
}

func TestNodesOfTexts(t *testing.T) {
	n := rows(nodesOfTexts, func(goal uint8, s, want string) {
		parsed, fault := syntax.Parse(goal, s)
		var l []string
		for _, x := range parsed.Nodes {
			text := kinds[x.Kind] + " " + strconv.Itoa(x.From) + "-" + strconv.Itoa(x.To)
			leaf := x.Kind == api.KName || x.Kind == api.KLit
			if leaf && x.Word != x.From {
				t.Errorf("P12.1: %q: %v", s, x)
			}
			if !leaf && x.Word >= 0 {
				text += " w" + strconv.Itoa(x.Word)
			}
			l = append(l, text)
		}
		if got := strings.Join(l, ", "); got != want || fault != (api.Fault{}) {
			t.Errorf("P12.1: Parse(%d, %q): %v, %s, not %s", goal, s, fault, got, want)
		}
		check(t, goal, s)
	})
	if n < 60 {
		t.Errorf("%d rows", n)
	}
}

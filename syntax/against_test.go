package syntax_test

import (
	"math/rand/v2"
	"slices"
	"strings"
	"testing"

	"emend/api"
	"emend/syntax"
)

// check holds Parse's answer against the rules, and tells whether the text is
// read.
func check(t *testing.T, goal uint8, s string) bool {
	t.Helper()
	want, wantFault := told(goal, s)
	got, fault := syntax.Parse(goal, s)
	if fault != wantFault || !slices.Equal(got.Nodes, want) {
		t.Fatalf("P12.1: Parse(%d, %.300q) = %v %v, not %v %v", goal, s, got.Nodes, fault, want, wantFault)
	}
	return fault.Err == api.OK
}

// sequences hands all texts to do that have up to n of the pieces of an
// alphabet, with blanks between them, and in which all brackets have partners.
func sequences(alphabet []string, n int, do func(s string)) {
	var grow func(s, open string, left int)
	grow = func(s, open string, left int) {
		if open == "" {
			do(s)
		}
		for _, x := range alphabet {
			if still, ok := openBehind(open, x); ok && len(still) < left {
				grow(s+" "+x, still, left-1)
			}
		}
	}
	grow("", "", n)
}

// openBehind are the brackets that are still to come behind a piece, ahead of
// which those of open were; false if it is a bracket that may not come.
func openBehind(open, piece string) (string, bool) {
	switch piece {
	case "(":
		return ")" + open, true
	case "[":
		return "]" + open, true
	case "{":
		return "}" + open, true
	case ")", "]", "}":
		return strings.CutPrefix(open, piece)
	}
	return open, true
}

func TestAllShortTexts(t *testing.T) {
	for _, x := range []struct {
		goal          uint8
		ahead, behind string
		alphabet      string
		n, read       int // how many pieces, and how many of the texts are read
	}{
		{api.GType, "", "", `a . [ ] ( ) { } * ... <- chan func map struct interface ; 1`, 4, 50},
		{api.GType, "struct {", "}", `a . , ; [ ] * "s" 1`, 5, 80},
		{api.GType, "struct {", "}", `a [ b ] ; ( ) ~ interface`, 5, 100},
		{api.GType, "interface {", "}", `a . , ; [ ] | ~ ( ) *`, 5, 100},
		{api.GType, "func (", ")", `a . , ... [ ] * ( ) func ;`, 5, 100},
		{api.GType, "func ( )", "", `a . [ ] * ( ) , <- chan struct { }`, 5, 100},
		{api.GType, "a", "", `[ ] b , . ( ) 1 *`, 6, 30},
		{api.GType, "[ ]", "", `<- chan a * [ ] ( ) map ;`, 5, 100},
		{api.GExpr, "", "", `a 1 . , : ; ( ) [ ] { } ... type * <- chan func`, 4, 100},
		{api.GExpr, "a", "", `. ( ) [ ] { } b : type`, 6, 100},
		{api.GExpr, "a [", "]", `a : , 1 ( )`, 6, 200},
		{api.GExpr, "a (", ")", `a , ... 1 ( ) :`, 6, 200},
		{api.GExpr, "a {", "}", `a , : { } ( ) ;`, 6, 100},
		{api.GExpr, "func", "", `( ) a { } [ ] b ;`, 6, 100},
		{api.GExpr, "", "", `a + * && == || - <- ! & ( )`, 5, 500},
		{api.GExpr, "a", "", `<< >> &^ % / | ^ != < <= > >= b`, 4, 100},
		{api.GStmts, "", "", `a , ; : = := ++ <- += ( ) { }`, 5, 200},
		{api.GStmts, "", "", `break continue goto fallthrough return go defer a ; : { } ,`, 4, 200},
		{api.GStmts, "{", "}", `const var type a b = , ( ) ; 1`, 5, 100},
		{api.GStmts, "if", "{ }", `a ; = := , { } else if (`, 5, 10},
		{api.GStmts, "if a { }", "", `else if a { } ; (`, 6, 50},
		{api.GStmts, "for", "{ }", `a ; = := , range { } ++`, 5, 40},
		{api.GStmts, "switch", "{ }", `a ; := . ( type ) {`, 6, 50},
		{api.GStmts, "switch", ". ( type ) { }", `a ; = := , . <-`, 5, 30},
		{api.GStmts, "switch a {", "}", `case default : , a ; . ( )`, 5, 30},
		{api.GStmts, "switch a . ( type ) {", "}", `case default : , a ; 1 [ ]`, 5, 40},
		{api.GStmts, "select {", "}", `case default : , a ; <- =`, 5, 30},
		{api.GStmts, "if a", "{ }", `. b [ c ] { } ( ) ==`, 5, 50},
		{api.GStmts, "for x := range [ a { } ]", "{ }", `a { } [ ] struct`, 5, 4},
		{api.GStmts, "type a", "", `[ ] b , ~ = * interface c 1`, 5, 60},
		{api.GStmts, "type a [ b", "c ] d", `, ~ interface func map chan struct * { } ( ) [ ] | e`, 4, 100},
		{api.GFile, "", "", `package a ; import "s" . ( )`, 5, 2},
		{api.GFile, "package p ;", "", `import "s" . a ( ) ; func const = var`, 5, 40},
		{api.GFile, "package p ; func", ";", `( ) a [ ] b { } ;`, 7, 100},
		{api.GFile, "package p ; func a [", "] ( )", `a , | ~ b [ ] . *`, 5, 100},
	} {
		t.Run(x.ahead, func(t *testing.T) {
			t.Parallel()
			read := 0
			sequences(strings.Fields(x.alphabet), x.n, func(s string) {
				if check(t, x.goal, x.ahead+s+" "+x.behind) {
					read++
				}
			})
			if read < x.read {
				t.Errorf("%d of the texts %s .. %s are read", read, x.ahead, x.behind)
			}
		})
	}
}

// Each token stands behind each other one, in texts of each goal.
func TestAllPairsOfTokens(t *testing.T) {
	tokens := strings.Fields(`+ - * / % & | ^ << >> &^ += -= *= /= %= &= |= ^= <<= >>= &^=
		&& || <- ++ -- == < > = ! ~ != <= >= := ... ( ) [ ] { } , . : ;
		break case chan const continue default defer else fallthrough for func go goto if import interface
		map package range return select struct switch type var a 1 1.5 2i 'a' "a"`)
	tokens = append(tokens, "`a`", "\n", "/**/")
	for _, x := range tokens {
		for _, y := range tokens {
			for goal := api.GType; goal <= api.GFile; goal++ {
				check(t, goal, x+" "+y)
			}
			for _, s := range []string{"a " + x + " " + y, "a; " + x + " " + y + " b", "a(" + x + " " + y + ")", "{" + x + " " + y + "}", x + " a " + y, x + " " + y + " {}"} {
				check(t, api.GStmts, s)
			}
			check(t, api.GType, "struct{ a "+x+" "+y+" }")
			check(t, api.GType, "interface{ "+x+" "+y+" }")
			check(t, api.GFile, "package p; "+x+" "+y)
		}
	}
}

// maker makes texts by the rules.
type maker struct {
	rules   map[string]ruleOf
	heights map[string]int
	chance  *rand.Rand
}

// one is one of some pieces.
func (k *maker) one(pieces ...string) string {
	return pieces[k.chance.IntN(len(pieces))]
}

// text is a text by a rule, with deep rules within it.
func (k *maker) text(name string, deep int) []string {
	again := func(behind func() []string) (l []string) {
		for deep > 0 && k.chance.IntN(3) == 0 {
			l = append(l, behind()...)
		}
		return l
	}
	switch name {
	case "Name":
		return []string{k.one("a", "b", "c")}
	case "Lit":
		return []string{k.one("1", "2.5", "3i", "'x'", `"s"`, "`r`")}
	case "String":
		return []string{k.one(`"s"`, "`r`")}
	case "Refused":
		return nil
	case "Only":
		return k.text(k.one("Expr", "Expr", "Expr", "Simple"), deep)
	case "Guarded":
		l := append(k.text("Primary", deep-1), ".", "(", "type", ")")
		return append([][]string{nil, {"a", ":="}, {"a", "="}}[k.chance.IntN(3)], l...)
	case "Expr":
		l := k.text("Unary", deep)
		return append(l, again(func() []string {
			level := levels[k.chance.IntN(len(levels))]
			return append([]string{k.one(level...)}, k.text("Unary", deep-1)...)
		})...)
	case "Primary":
		l := k.text("Operand", deep)
		return append(l, again(func() []string { return k.text("Suffix", deep-1) })...)
	}
	r := k.rules[name]
	if r.arrow != "" {
		deep--
	}
	return k.items(r.items, deep)
}

// items is a text of items.
func (k *maker) items(items []item, deep int) (l []string) {
	for _, it := range items {
		times := 1
		switch {
		case it.text == "none" || strings.HasPrefix(it.text, "head"):
			continue
		case it.text == "end" || it.text == "after":
			l = append(l, k.one(";", ";", ";", "\n", ""))
			continue
		case it.mark != "":
			l = append(l, it.mark)
			continue
		case it.text == "[" || it.maybe:
			times = min(k.chance.IntN(2), max(deep, 0))
		case it.text == "{":
			times = min(k.chance.IntN(4), max(deep, 0))
		}
		for range times {
			if it.ways == nil {
				l = append(l, k.text(it.text, deep)...)
			} else {
				l = append(l, k.items(k.wayFor(it.ways, deep).items, deep)...)
			}
		}
	}
	return l
}

// wayFor is any way, or the lowest one where no more rules may stand within.
func (k *maker) wayFor(ways []way, deep int) way {
	if deep > 0 {
		return ways[k.chance.IntN(len(ways))]
	}
	return slices.MinFunc(ways, func(a, b way) int { return k.height(a.items) - k.height(b.items) })
}

// height is how many rules stand within one another in items at least.
func (k *maker) height(items []item) int {
	high := 0
	for _, it := range items {
		switch {
		case it.text == "(":
			low := 1000
			for _, w := range it.ways {
				low = min(low, k.height(w.items))
			}
			high = max(high, low)
		case it.text == "Refused":
			high = 1000
		case it.ways == nil && !it.maybe:
			high = max(high, k.heights[it.text])
		}
	}
	return high
}

// newMaker is a maker whose chances are the same each time.
func newMaker(seed uint64) *maker {
	k := &maker{rules: theRules, heights: map[string]int{}, chance: rand.New(rand.NewPCG(seed, seed))}
	for name := range theRules {
		k.heights[name] = 1000
	}
	for range len(theRules) {
		for name, r := range theRules {
			high := k.height(r.items)
			if r.arrow != "" {
				high++
			}
			k.heights[name] = min(k.heights[name], high)
		}
		k.heights["Expr"], k.heights["Primary"] = k.heights["Unary"], k.heights["Operand"]
		k.heights["Only"], k.heights["Guarded"] = k.heights["Expr"], k.heights["Expr"]
	}
	return k
}

// spoil changes some pieces of a text.
func (k *maker) spoil(l []string) []string {
	words := strings.Fields("a b 1 \"s\" , ; : . ... = := + * <- ( ) [ ] { } type func case range if else struct chan ++ ~ |")
	for range k.chance.IntN(3) {
		i := k.chance.IntN(len(l) + 1)
		j := min(len(l), i+k.chance.IntN(2))
		l = slices.Concat(l[:i], [][]string{nil, {k.one(words...)}}[k.chance.IntN(2)], l[j:])
	}
	return l
}

func TestTextsByTheRules(t *testing.T) {
	const some = 8000
	found := map[uint8]int{}
	for goal := api.GType; goal <= api.GFile; goal++ {
		k := newMaker(uint64(goal))
		read := 0
		for i := range some {
			l := k.text(goalRules[goal-api.GType], 2+i%8)
			s := strings.Join(l, " ")
			if check(t, goal, s) {
				read++
			}
			parsed, _ := syntax.Parse(goal, s)
			for _, x := range parsed.Nodes {
				found[x.Kind]++
			}
			check(t, goal, strings.Join(k.spoil(l), k.one(" ", " ", "\n", "/**/", "")))
		}
		if read < some/2 {
			t.Errorf("%d of %d texts are read as %d", read, some, goal)
		}
	}
	for kind, name := range kinds {
		if found[uint8(kind)] < 20 {
			t.Errorf("%s was found %d times", name, found[uint8(kind)])
		}
	}
}

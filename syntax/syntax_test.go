package syntax_test

import (
	"slices"
	"strings"
	"testing"

	"emend/api"
	"emend/syntax"
	"emend/term"
	"emend/tree"
)

// form is a term as a text that is easy to read: a name and a literal are
// their word, a KNone is -, each other part its kind's name, its word behind a
// point, and its kids in brackets.
func form(l []api.Part) string {
	text, _ := formAt(l, 0)
	return text
}

func formAt(l []api.Part, i int) (string, int) {
	p := l[i]
	i++
	switch p.Kind {
	case api.KNone:
		return "-", i
	case api.KName, api.KLit:
		return p.Word, i
	}
	s := kinds[p.Kind]
	if p.Word != "" {
		s += "." + p.Word
	}
	var kids []string
	for range p.Kids {
		var kid string
		kid, i = formAt(l, i)
		kids = append(kids, kid)
	}
	return s + "(" + strings.Join(kids, " ") + ")", i
}

// goals are the goals by what the tables call them.
var goals = map[string]uint8{"type": api.GType, "expr": api.GExpr, "stmts": api.GStmts, "file": api.GFile}

// checkRead holds the term of a text against its form, and what Parse and Term
// tell against one another.
func checkRead(t *testing.T, goal uint8, s, want string) {
	t.Helper()
	l, fault := syntax.Term(goal, s)
	if fault != (api.Fault{}) || form(l) != want {
		if fault == (api.Fault{}) {
			want += "\n\tthat is " + form(l)
		}
		t.Errorf("P12.1: Term(%d, %q): %v, not %s", goal, s, fault, want)
		return
	}
	parsed, fault := syntax.Parse(goal, s)
	if fault != (api.Fault{}) || tree.Check(parsed.Nodes, len(parsed.Tokens)) != api.OK {
		t.Errorf("P12.3: Parse(%d, %q) = %v %v", goal, s, parsed, fault)
	}
	if len(parsed.Nodes) != len(l) || term.Check(l) != api.OK {
		t.Errorf("P12.2: Term(%d, %q) = %v", goal, s, l)
	}
	check(t, goal, s)
}

// checkFault holds the fault of a text against the place at which it should be.
func checkFault(t *testing.T, goal uint8, s string, want api.Fault) {
	t.Helper()
	parsed, fault := syntax.Parse(goal, s)
	l, other := syntax.Term(goal, s)
	if fault != want || other != want || len(parsed.Tokens)+len(parsed.Nodes)+len(l) != 0 {
		t.Errorf("P12.1: Parse(%d, %.200q) = %v %v, Term %v %v, not %v", goal, s, parsed, fault, l, other, want)
	}
}

func TestExamples(t *testing.T) {
	for _, x := range []struct {
		goal    uint8
		s, want string
	}{
		{api.GExpr, "a+b*c", `(37 "+" (26 "a") (37 "*" (26 "b") (26 "c")))`},
		{api.GType, "[]int", `(43 (26 "int"))`},
		{api.GStmts, "x := 1", `(13 (53 ":=" (11 (26 "x")) (11 (27 "1"))))`},
		{api.GStmts, "if x {}", `(13 (59 (0) (26 "x") (58 (13)) (0)))`},
		{api.GExpr, "x {}", `(39 (26 "x") (12))`},
		{api.GFile, "package p", `(1 (26 "p") (2) (2))`},
	} {
		l, fault := syntax.Term(x.goal, x.s)
		if got, err := term.Show(l); got != x.want || err != api.OK || fault != (api.Fault{}) {
			t.Errorf("P12.2: Term(%d, %q) = %s %v", x.goal, x.s, got, fault)
		}
	}
	checkFault(t, api.GExpr, "a +", api.Fault{Err: api.ErrSyntax, At: 3})
	checkFault(t, api.GStmts, "if x { y", api.Fault{Err: api.ErrNest, At: 5})
	checkFault(t, api.GStmts, "a b", api.Fault{Err: api.ErrSyntax, At: 2})
	checkFault(t, api.GStmts, "if x { y }\nelse {}", api.Fault{Err: api.ErrSyntax, At: 11})
}

// The first fault there is comes first: the goal's, then those of the text's
// length, its characters, its lexemes, its brackets, its syntax.
func TestFaultsInOrder(t *testing.T) {
	long := strings.Repeat("a", api.MaxText+1)
	deep := strings.Repeat("(", api.MaxNest+1)
	for s, want := range map[string]api.Fault{
		long + "\x00 # ( + +": {Err: api.ErrLong},
		") # + + \x00":        {Err: api.ErrChar, At: 8},
		") # + + \xff":        {Err: api.ErrChar, At: 8},
		"+ + ) 1x (":          {Err: api.ErrToken, At: 6},
		"+ + ) '":             {Err: api.ErrToken, At: 6},
		"+ + ( /*":            {Err: api.ErrToken, At: 6},
		"+ + ( a":             {Err: api.ErrNest, At: 4},
		"+ + )":               {Err: api.ErrNest, At: 4},
		"+ + (]":              {Err: api.ErrNest, At: 5},
		"+ + " + deep:         {Err: api.ErrDeep, At: 104},
		"+ + ()":              {Err: api.ErrSyntax, At: 5},
		strings.Repeat("a", api.MaxText) + "\xff": {Err: api.ErrLong},
	} {
		checkFault(t, api.GExpr, s, want)
		for _, goal := range []uint8{0, 5, 6, 128, 255} {
			checkFault(t, goal, s, api.Fault{Err: api.ErrArg})
		}
	}
	for _, s := range []string{"", "a", "package p", "x := 1"} {
		for _, goal := range []uint8{0, 5, 255} {
			checkFault(t, goal, s, api.Fault{Err: api.ErrArg})
		}
	}
	// Each goal has its own texts.
	for s, want := range map[string][]api.Errno{
		"":                {api.ErrSyntax, api.ErrSyntax, api.OK, api.ErrSyntax},
		"a":               {api.OK, api.OK, api.OK, api.ErrSyntax},
		"a + b":           {api.ErrSyntax, api.OK, api.OK, api.ErrSyntax},
		"[]a":             {api.OK, api.OK, api.OK, api.ErrSyntax},
		"a; b":            {api.ErrSyntax, api.ErrSyntax, api.OK, api.ErrSyntax},
		"x := 1":          {api.ErrSyntax, api.ErrSyntax, api.OK, api.ErrSyntax},
		"package p":       {api.ErrSyntax, api.ErrSyntax, api.ErrSyntax, api.OK},
		"func()":          {api.OK, api.OK, api.OK, api.ErrSyntax},
		"func f()":        {api.ErrSyntax, api.ErrSyntax, api.ErrSyntax, api.ErrSyntax},
		"var a int":       {api.ErrSyntax, api.ErrSyntax, api.OK, api.ErrSyntax},
		"*a":              {api.OK, api.OK, api.OK, api.ErrSyntax},
		"-a":              {api.ErrSyntax, api.OK, api.OK, api.ErrSyntax},
		"(a)":             {api.OK, api.OK, api.OK, api.ErrSyntax},
		"interface{ ~a }": {api.OK, api.OK, api.OK, api.ErrSyntax},
		"\ufeffa":         {api.OK, api.OK, api.OK, api.ErrSyntax},
	} {
		for i, want := range want {
			if _, fault := syntax.Parse(api.GType+uint8(i), s); fault.Err != want {
				t.Errorf("P12.1: Parse(%d, %q): %v, not %d", int(api.GType)+i, s, fault, want)
			}
		}
	}
}

// Behind a type and an expression one ; may stand.
func TestSemicolonsAtTheEnd(t *testing.T) {
	for _, goal := range []uint8{api.GType, api.GExpr} {
		for _, s := range []string{"a", "a\n", "a;", "a ; \n", "\na // b\n", "a /* b */", "a /*\n*/ ", "a; // b"} {
			checkRead(t, goal, s, "a")
		}
		for s, at := range map[string]int{"a;;": 2, "a\n;": 2, ";a": 0, "a;b": 2, "a\nb": 2, ";": 0, "": 0, " ": 1, "// a": 4} {
			checkFault(t, goal, s, api.Fault{Err: api.ErrSyntax, At: at})
		}
	}
}

// What stands within one another as deep as a text may be long is read.
func TestDeepAndLongTexts(t *testing.T) {
	for _, x := range []struct {
		goal             uint8
		ahead, more, end string
		depth            int // of each more
	}{
		{api.GExpr, "", "!", "x", 1},
		{api.GExpr, "", "*", "x", 1},
		{api.GExpr, "", "<-", "x", 1},
		{api.GExpr, "", "a+", "b", 1},
		{api.GExpr, "a", ".b", "", 1},
		{api.GExpr, "a", "()", "", 1},
		{api.GExpr, "a", "[:]", "", 1},
		{api.GExpr, "", "func()", "x", 2},
		{api.GType, "", "*", "x", 1},
		{api.GType, "", "[]", "x", 1},
		{api.GType, "", "chan ", "x", 1},
		{api.GType, "", "func()", "x", 2},
		{api.GType, "", "map[a]", "x", 1},
		{api.GStmts, "", "a:", "", 1},
		{api.GStmts, "", "if a{}else ", "{}", 1},
		{api.GStmts, "", "a\n", "", 0},
		{api.GStmts, "", ";", "", 0},
		{api.GStmts, "", "a,", "b = c", 0},
		{api.GFile, "package p;", "func a();", "", 0},
	} {
		n := (api.MaxText - len(x.ahead) - len(x.end)) / len(x.more)
		s := x.ahead + strings.Repeat(x.more, n) + x.end
		parsed, fault := syntax.Parse(x.goal, s)
		if fault != (api.Fault{}) || tree.Check(parsed.Nodes, len(parsed.Tokens)) != api.OK {
			t.Errorf("R1: %d of %q: %v", n, x.more, fault)
		}
		if got := tree.Depth(parsed.Nodes); got < x.depth*n || got > x.depth*n+6 {
			t.Errorf("P12.1: %d of %q stand %d deep", n, x.more, got)
		}
		checkFault(t, x.goal, s+strings.Repeat(" ", len(x.more))+"?", api.Fault{Err: api.ErrLong})
	}
	open, shut := strings.Repeat("(", api.MaxNest), strings.Repeat(")", api.MaxNest)
	checkRead(t, api.GExpr, open+"a"+shut, strings.Repeat("Paren(", api.MaxNest)+"a"+shut)
	checkFault(t, api.GExpr, "("+open+"a"+shut+")", api.Fault{Err: api.ErrDeep, At: api.MaxNest})
}

func TestAnswersShareNothing(t *testing.T) {
	const s = "func(a, b int) { c(d...)\ne[f] = g.h }"
	first, _ := syntax.Parse(api.GExpr, s)
	firstTerm, _ := syntax.Term(api.GExpr, s)
	tokens, nodes, parts := slices.Clone(first.Tokens), slices.Clone(first.Nodes), slices.Clone(firstTerm)
	second, _ := syntax.Parse(api.GExpr, s)
	secondTerm, _ := syntax.Term(api.GExpr, s)
	for i := range first.Tokens {
		first.Tokens[i] = api.Token{Kind: 99, From: -1}
	}
	for i := range first.Nodes {
		first.Nodes[i], firstTerm[i] = api.Node{Kind: 99}, api.Part{Kind: 99}
	}
	if !slices.Equal(second.Tokens, tokens) || !slices.Equal(second.Nodes, nodes) || !slices.Equal(secondTerm, parts) {
		t.Errorf("R3: %v %v", second, secondTerm)
	}
	syntax.Parse(api.GExpr, "if a {")
	syntax.Parse(api.GStmts, "if a + + {")
	third, fault := syntax.Parse(api.GExpr, s)
	if !slices.Equal(third.Nodes, nodes) || fault != (api.Fault{}) {
		t.Errorf("R2: %v %v", third, fault)
	}
}

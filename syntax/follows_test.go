package syntax_test

import (
	"slices"
	"strings"
	"testing"

	"emend/api"
	"emend/semi"
	"emend/syntax"
	"emend/term"
	"emend/tree"
)

// someTexts hands texts to do that are read, and their terms: those of the
// table, and some by the rules.
func someTexts(t *testing.T, do func(goal uint8, s string, l []api.Part)) {
	t.Helper()
	n := 0
	each := func(goal uint8, s string) {
		if l, fault := syntax.Term(goal, s); fault == (api.Fault{}) {
			n++
			do(goal, s, l)
		}
	}
	rows(readTexts, func(goal uint8, s, _ string) { each(goal, s) })
	for goal := api.GType; goal <= api.GFile; goal++ {
		k := newMaker(100 + uint64(goal))
		for i := range 1000 {
			each(goal, strings.Join(k.text(goalRules[goal-api.GType], 1+i%6), " "))
		}
	}
	if n < 3000 {
		t.Errorf("%d texts are read", n)
	}
}

// same holds the term of a text against what it should be.
func same(t *testing.T, promise string, goal uint8, s string, want []api.Part) {
	t.Helper()
	if l, fault := syntax.Term(goal, s); fault != (api.Fault{}) || !term.Same(l, want) {
		t.Fatalf("%s: Term(%d, %q): %v, %s, not %s", promise, goal, s, fault, form(l), form(want))
	}
}

// The nodes are a tree of the tokens, and a term; a node and the part of the
// same number have the same kind, kids and word.
func TestNodesAreATree(t *testing.T) {
	someTexts(t, func(goal uint8, s string, l []api.Part) {
		parsed, fault := syntax.Parse(goal, s)
		tokens, _ := semi.Of(s)
		if fault != (api.Fault{}) || !slices.Equal(parsed.Tokens, tokens) {
			t.Fatalf("P12.1: Parse(%d, %q): %v, tokens %v", goal, s, fault, parsed.Tokens)
		}
		if tree.Check(parsed.Nodes, len(tokens)) != api.OK || term.Check(l) != api.OK || len(l) != len(parsed.Nodes) {
			t.Fatalf("P12.3: Parse(%d, %q) = %v", goal, s, parsed.Nodes)
		}
		for i, x := range parsed.Nodes {
			word := ""
			if x.Word >= 0 {
				word = s[tokens[x.Word].From:tokens[x.Word].To]
			}
			if x.Kind == api.KChanOf {
				word = l[i].Word // of two tokens; the tables tell which
			}
			if (l[i] != api.Part{Kind: x.Kind, Kids: x.Kids, Word: word}) {
				t.Fatalf("P12.2: %q: part %d is %v, node %v", s, i, l[i], x)
			}
		}
		if end := parsed.Nodes[0].To; goal == api.GFile && end != len(tokens) || end < len(tokens)-1 && goal < api.GStmts {
			t.Fatalf("P12.1: %q: the root ends at %d of %d", s, end, len(tokens))
		}
	})
}

// Each token other than a semicolon or a comma is one of a node that begins or
// ends there or has it as its word, or stands behind such a one.
func TestBlanksAndCommentsChangeNoTerm(t *testing.T) {
	someTexts(t, func(goal uint8, s string, l []api.Part) {
		tokens, _ := semi.Of(s)
		for _, between := range []string{" ", "\t", " \r ", " /**/ ", " /* ; \" */\t", " /*(*//*)*/ "} {
			var parts, lines []string
			for _, x := range tokens {
				text := s[x.From:x.To]
				if x.Kind == api.TSemi {
					text = ";"
				}
				parts = append(parts, text)
				if !semi.Ends(x.Kind, text) {
					text += between + "\n" + between + "// x\n"
				}
				lines = append(lines, text)
			}
			same(t, "P2", goal, strings.Join(parts, between), l)
			same(t, "P12.3", goal, between+strings.Join(lines, between)+between, l)
			same(t, "P12.3", goal, strings.ReplaceAll(strings.Join(parts, " "), " ", " "+between), l)
		}
	})
}

// Where a line ends behind a token that may end one, a semicolon stands.
func TestLineEndsAreSemicolons(t *testing.T) {
	someTexts(t, func(goal uint8, s string, l []api.Part) {
		tokens, _ := semi.Of(s)
		for _, end := range []string{"\n", " // x\n", "/*\n*/", "\r\n\n"} {
			var b strings.Builder
			for i, x := range tokens {
				text := s[x.From:x.To]
				switch {
				case x.Kind != api.TSemi:
					b.WriteString(" " + text)
				case i > 0 && semi.Ends(tokens[i-1].Kind, s[tokens[i-1].From:tokens[i-1].To]):
					b.WriteString(end)
				default:
					b.WriteString(";")
				}
			}
			same(t, "P2", goal, b.String(), l)
		}
	})
}

func TestBracketsAreAParen(t *testing.T) {
	someTexts(t, func(goal uint8, s string, l []api.Part) {
		if goal != api.GType && goal != api.GExpr || strings.HasSuffix(strings.TrimSpace(s), ";") {
			return
		}
		same(t, "P12.3", goal, "("+s+")", append([]api.Part{{Kind: api.KParen, Kids: 1}}, l...))
		same(t, "P12.3", goal, "(("+s+"))", append([]api.Part{{Kind: api.KParen, Kids: 1}, {Kind: api.KParen, Kids: 1}}, l...))
	})
}

// Statements, a line's end and statements are both's; but a label alone at the
// end of the first takes the first statement of the others for its own.
func TestStatementsBehindStatements(t *testing.T) {
	type text struct {
		s string
		l []api.Part
	}
	var all []text
	someTexts(t, func(goal uint8, s string, l []api.Part) {
		if goal == api.GStmts && len(s) < 300 {
			all = append(all, text{s, l})
		}
	})
	for i, a := range all {
		if strings.HasSuffix(strings.TrimRight(a.s, " \n"), ":") {
			continue
		}
		for j := range 40 {
			b := all[(i*7+j*j)%len(all)]
			want := append([]api.Part{{Kind: api.KStmts, Kids: a.l[0].Kids + b.l[0].Kids}}, a.l[1:]...)
			same(t, "P12.3", api.GStmts, a.s+"\n"+b.s, append(want, b.l[1:]...))
			same(t, "P12.3", api.GStmts, a.s+" // x\n"+b.s, append(want, b.l[1:]...))
		}
	}
	checkRead(t, api.GStmts, "a:\nb", "Stmts(Labeled(a ExprStmt(b)))")
	checkRead(t, api.GStmts, "a:\n;b", "Stmts(Labeled(a Empty()) ExprStmt(b))")
}

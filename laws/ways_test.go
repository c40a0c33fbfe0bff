package laws

import (
	"go/ast"
	"go/parser"
	"go/token"
	"path/filepath"
	"slices"
	"strings"
	"testing"
)

// ways are those of the document's section 'Ways' that syntax alone shows, of
// the layers that are built.
var ways = map[string][]string{
	"class":  {"array"},
	"span":   {"closure", "copy"},
	"lines":  {"closure"},
	"number": {"closure"},
	"quoted": {"fallthrough"},
	"scan":   {"label"},
	"semi":   {"closure", "struct-compared"},
	"nest":   {"array"},
	"tree":   {"closure"},
	"term":   {"closure", "copy"},
	"syntax": {"panic", "defer", "recover", "type-switch", "map", "method-expression", "method-value"},
}

func TestLayersLeanOnTheirWays(t *testing.T) {
	for layer, wanted := range ways {
		var files []*ast.File
		for _, path := range sources(t) {
			if filepath.Base(filepath.Dir(path)) == layer {
				files = append(files, parsed(t, path))
			}
		}
		l := waysOf(files)
		for _, way := range wanted {
			if !slices.Contains(l, way) {
				t.Errorf("Ways: %s has no %s", layer, way)
			}
		}
	}
}

// parsed is a file's syntax.
func parsed(t *testing.T, path string) *ast.File {
	t.Helper()
	file, err := parser.ParseFile(token.NewFileSet(), path, nil, 0)
	if err != nil {
		t.Fatal(err)
	}
	return file
}

// waysOf tells which ways the files of a package have.
func waysOf(files []*ast.File) []string {
	methods := map[string]bool{}
	called := map[ast.Node]bool{}
	var l []string
	each := func(do func(n ast.Node)) {
		for _, file := range files {
			ast.Inspect(file, func(n ast.Node) bool {
				do(n)
				return true
			})
		}
	}
	each(func(n ast.Node) {
		switch x := n.(type) {
		case *ast.FuncDecl:
			methods[x.Name.Name] = methods[x.Name.Name] || x.Recv != nil
		case *ast.CallExpr:
			called[ast.Unparen(x.Fun)] = true
		}
	})
	each(func(n ast.Node) {
		l = append(l, way(n))
		if x, ok := n.(*ast.SelectorExpr); ok && methods[x.Sel.Name] && !called[x] {
			l = append(l, wayOfMethod(x))
		}
	})
	return l
}

// wayOfMethod is the way that a method is one of which isn't called.
func wayOfMethod(x *ast.SelectorExpr) string {
	if p, ok := x.X.(*ast.ParenExpr); ok {
		if _, ok := p.X.(*ast.StarExpr); ok {
			return "method-expression"
		}
	}
	return "method-value"
}

// way is the way that a node of a file is one of; the empty text if of none.
func way(n ast.Node) string {
	switch x := n.(type) {
	case *ast.FuncLit:
		return "closure"
	case *ast.DeferStmt:
		return "defer"
	case *ast.TypeSwitchStmt:
		return "type-switch"
	case *ast.MapType:
		return "map"
	case *ast.ArrayType:
		if x.Len != nil {
			return "array"
		}
	case *ast.BranchStmt:
		if x.Label != nil {
			return "label"
		}
		return x.Tok.String()
	case *ast.BinaryExpr:
		if (x.Op == token.EQL || x.Op == token.NEQ) && (isLiteral(x.X) || isLiteral(x.Y)) {
			return "struct-compared"
		}
	case *ast.CallExpr:
		if f, ok := x.Fun.(*ast.Ident); ok && strings.Contains(" copy panic recover ", " "+f.Name+" ") {
			return f.Name
		}
	}
	return ""
}

// isLiteral tells a composite literal; in a comparison that is a struct's or
// an array's.
func isLiteral(x ast.Expr) bool {
	_, ok := ast.Unparen(x).(*ast.CompositeLit)
	return ok
}

package laws

import (
	"go/ast"
	"go/parser"
	"go/token"
	"path/filepath"
	"slices"
	"strings"
	"testing"
)

// ways are those of the document's section 'Ways' that syntax alone shows, of
// the layers that are built.
var ways = map[string][]string{
	"class":  {"array"},
	"span":   {"closure", "copy"},
	"lines":  {"closure"},
	"number": {"closure"},
	"quoted": {"fallthrough"},
	"scan":   {"label"},
	"semi":   {"closure", "struct-compared"},
	"nest":   {"array"},
	"tree":   {"closure"},
	"term":   {"closure", "copy"},
}

func TestLayersLeanOnTheirWays(t *testing.T) {
	for layer, wanted := range ways {
		var l []string
		for _, path := range sources(t) {
			if filepath.Base(filepath.Dir(path)) == layer {
				l = append(l, waysOf(t, path)...)
			}
		}
		for _, way := range wanted {
			if !slices.Contains(l, way) {
				t.Errorf("Ways: %s has no %s", layer, way)
			}
		}
	}
}

// waysOf tells which ways a file has.
func waysOf(t *testing.T, path string) []string {
	t.Helper()
	file, err := parser.ParseFile(token.NewFileSet(), path, nil, 0)
	if err != nil {
		t.Fatal(err)
	}
	var l []string
	ast.Inspect(file, func(n ast.Node) bool {
		l = append(l, way(n))
		return true
	})
	return l
}

// way is the way that a node of a file is one of; the empty text if of none.
func way(n ast.Node) string {
	switch x := n.(type) {
	case *ast.FuncLit:
		return "closure"
	case *ast.ArrayType:
		if x.Len != nil {
			return "array"
		}
	case *ast.BranchStmt:
		if x.Label != nil {
			return "label"
		}
		return x.Tok.String()
	case *ast.BinaryExpr:
		if (x.Op == token.EQL || x.Op == token.NEQ) && (isLiteral(x.X) || isLiteral(x.Y)) {
			return "struct-compared"
		}
	case *ast.CallExpr:
		if f, ok := x.Fun.(*ast.Ident); ok && strings.Contains(" copy panic recover ", " "+f.Name+" ") {
			return f.Name
		}
	}
	return ""
}

// isLiteral tells a composite literal; in a comparison that is a struct's or
// an array's.
func isLiteral(x ast.Expr) bool {
	_, ok := ast.Unparen(x).(*ast.CompositeLit)
	return ok
}

// Package laws holds the whole program to the language that it is written in.
package laws

import (
	"bytes"
	"go/ast"
	"go/format"
	"go/parser"
	"go/token"
	"io/fs"
	"os"
	"path/filepath"
	"strconv"
	"strings"
	"testing"
)

const (
	root       = ".."
	longest    = 60 // lines of a function
	libraryMay = " bytes cmp container/heap errors iter maps math math/bits slices sort strconv strings sync sync/atomic unicode unicode/utf8 "
)

// sources are the program's files, without tests and without what is laid
// beside it for a check.
func sources(t *testing.T) []string {
	t.Helper()
	var l []string
	err := filepath.WalkDir(root, func(path string, d fs.DirEntry, err error) error {
		if err != nil {
			return err
		}
		if d.IsDir() && (d.Name() == "sharedtests" || d.Name() == ".git") {
			return fs.SkipDir
		}
		if strings.HasSuffix(path, ".go") && !strings.HasSuffix(path, "_test.go") {
			l = append(l, path)
		}
		return nil
	})
	if err != nil || len(l) == 0 {
		t.Fatalf("%d files, %v", len(l), err)
	}
	return l
}

func TestSourcesKeepToTheLanguage(t *testing.T) {
	for _, path := range sources(t) {
		text, err := os.ReadFile(path)
		if err != nil {
			t.Fatal(err)
		}
		if neat, err := format.Source(text); err != nil || !bytes.Equal(neat, text) {
			t.Errorf("%s: not in gofmt's layout: %v", path, err)
		}
		files := token.NewFileSet()
		file, err := parser.ParseFile(files, path, text, parser.ParseComments)
		if err != nil {
			t.Fatal(err)
		}
		checkImports(t, path, file)
		checkRemarks(t, path, file)
		checkLengths(t, files, file)
	}
}

func checkImports(t *testing.T, path string, file *ast.File) {
	for _, i := range file.Imports {
		name, _ := strconv.Unquote(i.Path.Value)
		if !strings.HasPrefix(name, "emend/") && !strings.Contains(libraryMay, " "+name+" ") {
			t.Errorf("%s: imports %s", path, name)
		}
	}
}

func checkRemarks(t *testing.T, path string, file *ast.File) {
	for _, g := range file.Comments {
		for _, c := range g.List {
			if strings.HasPrefix(c.Text, "//go:") || strings.HasPrefix(c.Text, "// +build") {
				t.Errorf("%s: %s", path, c.Text)
			}
		}
	}
}

func checkLengths(t *testing.T, files *token.FileSet, file *ast.File) {
	for _, d := range file.Decls {
		f, ok := d.(*ast.FuncDecl)
		if !ok {
			continue
		}
		at, end := files.Position(f.Pos()), files.Position(f.End())
		if n := end.Line - at.Line + 1; n > longest {
			t.Errorf("%s: %s has %d lines", at, f.Name.Name, n)
		}
	}
}

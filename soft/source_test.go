package soft_test

import (
	"go/ast"
	"go/parser"
	"go/token"
	"io/fs"
	"path/filepath"
	"strings"
	"testing"
)

// sources are the program's files: without tests, and without what .ci/run lays beside it.
func sources(t *testing.T) []string {
	t.Helper()
	var out []string
	err := filepath.WalkDir("..", func(path string, d fs.DirEntry, err error) error {
		switch {
		case err != nil:
			return err
		case d.IsDir() && (d.Name() == "sharedtests" || d.Name() == ".git"):
			return filepath.SkipDir
		case strings.HasSuffix(path, ".go") && !strings.HasSuffix(path, "_test.go"):
			out = append(out, path)
		}
		return nil
	})
	if err != nil || len(out) == 0 {
		t.Fatalf("%d files, %v", len(out), err)
	}
	return out
}

// No float and nothing of package math but math/bits stands in the program.
func TestNoFloats(t *testing.T) {
	for _, path := range sources(t) {
		file, err := parser.ParseFile(token.NewFileSet(), path, nil, 0)
		if err != nil {
			t.Fatal(err)
		}
		for _, i := range file.Imports {
			if p := strings.Trim(i.Path.Value, `"`); strings.HasPrefix(p, "math") && p != "math/bits" {
				t.Errorf("%s imports %s", path, p)
			}
		}
		ast.Inspect(file, func(n ast.Node) bool {
			switch x := n.(type) {
			case *ast.BasicLit:
				if x.Kind == token.FLOAT || x.Kind == token.IMAG {
					t.Errorf("%s: %s", path, x.Value)
				}
			case *ast.Ident:
				if strings.HasPrefix(x.Name, "float") || strings.HasPrefix(x.Name, "complex") {
					t.Errorf("%s: %s", path, x.Name)
				}
			}
			return true
		})
	}
}

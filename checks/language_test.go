package checks

import (
	"bytes"
	"go/ast"
	"go/format"
	"go/parser"
	"go/token"
	"os"
	"path/filepath"
	"slices"
	"strconv"
	"strings"
	"testing"
)

const longestFunction = 60

var library = []string{"bytes", "cmp", "container/heap", "errors", "iter", "maps", "math", "math/big", "math/bits", "slices", "sort",
	"strconv", "strings", "sync", "sync/atomic", "unicode", "unicode/utf8"}

// sources is the Go files of the program: no tests, and nothing of what the run lays beside the project.
func sources(t *testing.T) []string {
	t.Helper()
	all, err := filepath.Glob("../*/*.go")
	if err != nil {
		t.Fatal(err)
	}
	l := slices.DeleteFunc(all, func(f string) bool {
		return strings.HasSuffix(f, "_test.go") || strings.HasPrefix(f, "../sharedtests/")
	})
	if len(l) < 27 {
		t.Fatalf("only %d files found", len(l))
	}
	return l
}

func TestLanguage(t *testing.T) {
	for _, name := range sources(t) {
		text, err := os.ReadFile(name)
		if err != nil {
			t.Fatal(err)
		}
		if laid, err := format.Source(text); err != nil || !bytes.Equal(laid, text) {
			t.Errorf("%s: not in gofmt's layout (%v)", name, err)
		}
		checkFile(t, name, text)
	}
}

func checkFile(t *testing.T, name string, text []byte) {
	t.Helper()
	set := token.NewFileSet()
	file, err := parser.ParseFile(set, name, text, parser.ParseComments)
	if err != nil {
		t.Error(err)
		return
	}
	for _, i := range file.Imports {
		path, _ := strconv.Unquote(i.Path.Value)
		if !strings.HasPrefix(path, "tenor/") && !slices.Contains(library, path) {
			t.Errorf("%s imports %s", name, path)
		}
	}
	for _, group := range file.Comments {
		for _, c := range group.List {
			if strings.HasPrefix(c.Text, "//go:") || strings.HasPrefix(c.Text, "// +build") {
				t.Errorf("%s: %s", name, c.Text)
			}
		}
	}
	for _, d := range file.Decls {
		if f, ok := d.(*ast.FuncDecl); ok {
			if n := set.Position(f.End()).Line - set.Position(f.Pos()).Line + 1; n > longestFunction {
				t.Errorf("%s: %s has %d lines", name, f.Name.Name, n)
			}
		}
	}
}

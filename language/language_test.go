// Package language holds the program's files against the rules of shared/LANGUAGE.md that their text alone shows.
package language

import (
	"bytes"
	"go/ast"
	"go/format"
	"go/parser"
	"go/token"
	"io/fs"
	"os"
	"path/filepath"
	"strconv"
	"strings"
	"testing"
)

const (
	allowed     = " bytes cmp container/heap errors iter maps math math/big math/bits slices sort strconv strings sync sync/atomic unicode unicode/utf8 "
	mostLines   = 60
	sharedTests = "sharedtests"
)

// programFiles are the Go files of the project that are no tests.
func programFiles(t *testing.T) []string {
	t.Helper()
	var files []string
	err := filepath.WalkDir("..", func(path string, d fs.DirEntry, err error) error {
		if err != nil {
			return err
		}
		if d.IsDir() && (d.Name() == sharedTests || d.Name() == ".git") {
			return fs.SkipDir
		}
		if strings.HasSuffix(path, ".go") && !strings.HasSuffix(path, "_test.go") {
			files = append(files, path)
		}
		return nil
	})
	if err != nil {
		t.Fatal(err)
	}
	if len(files) == 0 {
		t.Fatal("no files of the program")
	}
	return files
}

func checkImports(t *testing.T, path string, file *ast.File) {
	for _, spec := range file.Imports {
		name, err := strconv.Unquote(spec.Path.Value)
		if err != nil {
			t.Fatal(err)
		}
		if !strings.HasPrefix(name, "pergola/") && !strings.Contains(allowed, " "+name+" ") {
			t.Errorf("%s imports %s", path, name)
		}
	}
}

func checkComments(t *testing.T, path string, file *ast.File) {
	for _, group := range file.Comments {
		for _, c := range group.List {
			if strings.HasPrefix(c.Text, "//go:") || strings.HasPrefix(c.Text, "// +build") {
				t.Errorf("%s has the line %s", path, c.Text)
			}
		}
	}
}

func checkLengths(t *testing.T, path string, set *token.FileSet, file *ast.File) {
	for _, d := range file.Decls {
		f, ok := d.(*ast.FuncDecl)
		if !ok {
			continue
		}
		if n := set.Position(f.End()).Line - set.Position(f.Pos()).Line + 1; n > mostLines {
			t.Errorf("%s: %s has %d lines", path, f.Name.Name, n)
		}
	}
}

func checkLayout(t *testing.T, path string, src []byte) {
	laid, err := format.Source(src)
	if err != nil {
		t.Fatal(err)
	}
	if !bytes.Equal(laid, src) {
		t.Errorf("%s is not in gofmt's layout", path)
	}
}

// checkVariables: at package level stand values that are written out, and no map, function or float.
func checkVariables(t *testing.T, path string, file *ast.File) {
	for _, d := range file.Decls {
		group, ok := d.(*ast.GenDecl)
		if !ok || group.Tok != token.VAR {
			continue
		}
		for _, spec := range group.Specs {
			v := spec.(*ast.ValueSpec)
			if len(v.Values) != len(v.Names) {
				t.Errorf("%s: %s has no value of its own", path, v.Names[0].Name)
			}
			ast.Inspect(v, func(n ast.Node) bool {
				switch x := n.(type) {
				case *ast.MapType, *ast.FuncType:
					t.Errorf("%s: %s holds a map or a function", path, v.Names[0].Name)
				case *ast.BasicLit:
					if x.Kind == token.FLOAT {
						t.Errorf("%s: %s holds a float", path, v.Names[0].Name)
					}
				}
				return true
			})
		}
	}
}

func checkMaps(t *testing.T, path string, file *ast.File) {
	ast.Inspect(file, func(n ast.Node) bool {
		m, ok := n.(*ast.MapType)
		if !ok {
			return true
		}
		if v, ok := m.Value.(*ast.Ident); ok && (v.Name == "bool" || v.Name == "string") {
			t.Errorf("%s has a map of %ss", path, v.Name)
		}
		return true
	})
}

// checkRecovers: recover stands in a deferred function literal alone.
func checkRecovers(t *testing.T, path string, file *ast.File) {
	ast.Inspect(file, func(n ast.Node) bool {
		switch x := n.(type) {
		case *ast.DeferStmt:
			if _, ok := x.Call.Fun.(*ast.FuncLit); ok {
				return false
			}
		case *ast.Ident:
			if x.Name == "recover" {
				t.Errorf("%s recovers outside of a deferred function literal", path)
			}
		}
		return true
	})
}

// In the packages' folders stand Go files alone.
func TestNoOtherFiles(t *testing.T) {
	folders, err := os.ReadDir("..")
	if err != nil {
		t.Fatal(err)
	}
	for _, folder := range folders {
		if !folder.IsDir() || strings.HasPrefix(folder.Name(), ".") || folder.Name() == sharedTests {
			continue
		}
		files, err := os.ReadDir(filepath.Join("..", folder.Name()))
		if err != nil {
			t.Fatal(err)
		}
		for _, f := range files {
			if f.IsDir() || !strings.HasSuffix(f.Name(), ".go") {
				t.Errorf("%s/%s is no Go file", folder.Name(), f.Name())
			}
		}
	}
}

func TestProgramFiles(t *testing.T) {
	for _, path := range programFiles(t) {
		src, err := os.ReadFile(path)
		if err != nil {
			t.Fatal(err)
		}
		set := token.NewFileSet()
		file, err := parser.ParseFile(set, path, src, parser.ParseComments)
		if err != nil {
			t.Fatal(err)
		}
		checkImports(t, path, file)
		checkComments(t, path, file)
		checkLengths(t, path, set, file)
		checkLayout(t, path, src)
		checkVariables(t, path, file)
		checkMaps(t, path, file)
		checkRecovers(t, path, file)
	}
}

// Package language checks that the program keeps to the part of Go that it may use: no clock, random source, file or network (rule R5), and no state that a call could leave behind.
package language

import (
	"bytes"
	"go/ast"
	"go/format"
	"go/parser"
	"go/token"
	"os"
	"path/filepath"
	"slices"
	"strings"
	"testing"
)

const library = " bytes cmp container/heap errors iter maps math math/bits slices sort strconv strings sync sync/atomic unicode unicode/utf8 "

const longest = 60 // lines of a function

// packages is the folders of the program: those that help all layers, the layers in their order, and what only tests use.
const packages = "api clone graph text der catalog certificate chain keystore settings blocks suitespec endpoint executable pattern packages handshake finding identity asset rule verdict exception negotiate downgrade lifetime exposure change estate conversation policy need order window plan proof planner job renewal host runner watch reopen gone ledger journal report script audit sample"

// sources calls a function with each Go file of the program that is not a test.
func sources(t *testing.T, f func(path string, text []byte, set *token.FileSet, file *ast.File)) {
	for _, folder := range strings.Fields(packages) {
		paths, err := filepath.Glob(filepath.Join("..", folder, "*.go"))
		if err != nil || len(paths) == 0 {
			t.Fatalf("%s: no Go files, %v", folder, err)
		}
		for _, path := range paths {
			if strings.HasSuffix(path, "_test.go") {
				continue
			}
			text, err := os.ReadFile(path)
			if err != nil {
				t.Fatal(err)
			}
			set := token.NewFileSet()
			file, err := parser.ParseFile(set, path, text, parser.ParseComments)
			if err != nil {
				t.Fatal(err)
			}
			f(path, text, set, file)
		}
	}
}

func TestImports(t *testing.T) {
	sources(t, func(path string, _ []byte, _ *token.FileSet, file *ast.File) {
		for _, i := range file.Imports {
			p := strings.Trim(i.Path.Value, `"`)
			if !strings.HasPrefix(p, "cipherplan/") && !strings.Contains(library, " "+p+" ") {
				t.Errorf("%s imports %s", path, p)
			}
		}
	})
}

func TestDirectives(t *testing.T) {
	sources(t, func(path string, _ []byte, _ *token.FileSet, file *ast.File) {
		for _, g := range file.Comments {
			for _, c := range g.List {
				if strings.HasPrefix(c.Text, "//go:") || strings.HasPrefix(c.Text, "// +build") {
					t.Errorf("%s: %s", path, c.Text)
				}
			}
		}
	})
}

func TestLayout(t *testing.T) {
	sources(t, func(path string, text []byte, set *token.FileSet, file *ast.File) {
		if b, err := format.Source(text); err != nil || !bytes.Equal(b, text) {
			t.Errorf("%s has not gofmt's layout", path)
		}
		for _, d := range file.Decls {
			if f, ok := d.(*ast.FuncDecl); ok && set.Position(f.End()).Line-set.Position(f.Pos()).Line >= longest {
				t.Errorf("%s: %s is longer than %d lines", path, f.Name.Name, longest)
			}
		}
	})
}

// TestVariables checks that the values of variables of packages are written out where they are declared.
func TestVariables(t *testing.T) {
	sources(t, func(path string, _ []byte, _ *token.FileSet, file *ast.File) {
		for _, d := range file.Decls {
			g, ok := d.(*ast.GenDecl)
			if !ok || g.Tok != token.VAR {
				continue
			}
			for _, s := range g.Specs {
				if v := s.(*ast.ValueSpec); len(v.Values) != len(v.Names) {
					t.Errorf("%s: %s has no initial value", path, v.Names[0].Name)
				}
			}
		}
	})
}

// TestLayers checks that each package imports only such as stand before it in the list.
func TestLayers(t *testing.T) {
	all := strings.Fields(packages)
	sources(t, func(path string, _ []byte, _ *token.FileSet, file *ast.File) {
		folder := filepath.Base(filepath.Dir(path))
		for _, i := range file.Imports {
			used, own := strings.CutPrefix(strings.Trim(i.Path.Value, `"`), "cipherplan/")
			if own && slices.Index(all, used) >= slices.Index(all, folder) {
				t.Errorf("%s imports %s", path, used)
			}
		}
	})
}

package rules_test

import (
	"bytes"
	"go/ast"
	"go/format"
	"go/parser"
	"go/token"
	"os"
	"path/filepath"
	"slices"
	"strconv"
	"strings"
	"testing"
)

const longestFunction = 60

var allowedImports = []string{
	"bytes", "cmp", "container/heap", "errors", "iter", "maps", "math", "math/bits", "slices", "sort", "strconv",
	"strings", "sync", "sync/atomic", "unicode", "unicode/utf8",
}

// packages: all of the program; a package more is to be named here too.
var packages = []string{
	"api", "sha2", "sha5", "hmac", "codec", "field", "scalar", "edwards", "sign", "vrf", "disk", "journal", "extent",
	"path", "tree", "proof", "rfclog", "commit", "chain", "direct", "cache", "cadence", "tenant", "super", "wire",
	"bundle", "host", "keep", "verify", "monitor", "extract", "fan", "world", "shell", "survey",
}

// programFiles: the paths of the program's Go files, without tests.
func programFiles(t *testing.T) []string {
	var files []string
	for _, name := range packages {
		all, _ := filepath.Glob(filepath.Join("..", name, "*.go"))
		all = slices.DeleteFunc(all, func(file string) bool { return strings.HasSuffix(file, "_test.go") })
		if len(all) == 0 {
			t.Errorf("package %s has no file", name)
		}
		files = append(files, all...)
	}
	return files
}

// The program's code keeps to what of the language's rules a look at the text shows.
func TestLanguage(t *testing.T) {
	for _, name := range programFiles(t) {
		text, err := os.ReadFile(name)
		if err != nil {
			t.Fatal(err)
		}
		if laid, err := format.Source(text); err != nil || !bytes.Equal(laid, text) {
			t.Errorf("%s: not in gofmt's layout", name)
		}
		places := token.NewFileSet()
		file, err := parser.ParseFile(places, name, text, parser.ParseComments)
		if err != nil {
			t.Fatal(err)
		}
		checkImports(t, name, file)
		checkComments(t, name, file)
		for _, d := range file.Decls {
			switch d := d.(type) {
			case *ast.FuncDecl:
				if lines := places.Position(d.End()).Line - places.Position(d.Pos()).Line + 1; lines > longestFunction {
					t.Errorf("%s: %s has %d lines", name, d.Name.Name, lines)
				}
			case *ast.GenDecl:
				checkVariables(t, name, d)
			}
		}
	}
}

func checkImports(t *testing.T, name string, file *ast.File) {
	for _, i := range file.Imports {
		path, _ := strconv.Unquote(i.Path.Value)
		if !strings.HasPrefix(path, "custumal/") && !slices.Contains(allowedImports, path) {
			t.Errorf("%s: imports %s", name, path)
		}
	}
}

func checkComments(t *testing.T, name string, file *ast.File) {
	for _, group := range file.Comments {
		for _, c := range group.List {
			if strings.HasPrefix(c.Text, "//go:") || strings.HasPrefix(c.Text, "// +build") {
				t.Errorf("%s: %s", name, c.Text)
			}
		}
	}
}

// checkVariables: at package level each variable has a value, written out where it stands, or an error's.
func checkVariables(t *testing.T, name string, d *ast.GenDecl) {
	if d.Tok != token.VAR {
		return
	}
	for _, s := range d.Specs {
		v := s.(*ast.ValueSpec)
		if len(v.Values) != len(v.Names) {
			t.Errorf("%s: %s has no value of its own", name, v.Names[0].Name)
		}
		for _, value := range v.Values {
			ast.Inspect(value, func(n ast.Node) bool {
				switch n := n.(type) {
				case *ast.CallExpr:
					if f, ok := n.Fun.(*ast.SelectorExpr); !ok || f.Sel.Name != "New" {
						t.Errorf("%s: %s has a call's value", name, v.Names[0].Name)
					}
				case *ast.FuncLit, *ast.MapType, *ast.UnaryExpr:
					if u, ok := n.(*ast.UnaryExpr); !ok || u.Op == token.AND {
						t.Errorf("%s: %s isn't a plain table", name, v.Names[0].Name)
					}
				}
				return true
			})
		}
	}
}

// checkWay: somewhere in a package there is what a way is made of.
func checkWay(t *testing.T, name, why string, is func(n ast.Node) bool) {
	t.Helper()
	count := 0
	for _, file := range programFiles(t) {
		if filepath.Base(filepath.Dir(file)) != name {
			continue
		}
		parsed, err := parser.ParseFile(token.NewFileSet(), file, nil, 0)
		if err != nil {
			t.Fatal(err)
		}
		ast.Inspect(parsed, func(n ast.Node) bool {
			if is(n) {
				count++
			}
			return true
		})
	}
	if count == 0 {
		t.Errorf("no %s in package %s", why, name)
	}
}

// both: does a select hand out and take back, and wait for one of them?
func both(n ast.Node) bool {
	s, ok := n.(*ast.SelectStmt)
	if !ok {
		return false
	}
	sends, takes, waits := 0, 0, true
	for _, c := range s.Body.List {
		switch c.(*ast.CommClause).Comm.(type) {
		case *ast.SendStmt:
			sends++
		case nil:
			waits = false
		default:
			takes++
		}
	}
	return sends == 1 && takes == 1 && waits
}

// In the host kinds that are done alike go on into each other; in the fan one goroutine hands out and gathers: as the document's section Ways asks.
func TestWays(t *testing.T) {
	checkWay(t, "host", "fallthrough", func(n ast.Node) bool {
		b, ok := n.(*ast.BranchStmt)
		return ok && b.Tok == token.FALLTHROUGH
	})
	checkWay(t, "fan", "select over both channels", both)
}

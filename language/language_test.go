// Package language tests that the program keeps to the small part of Go in which it is written, as far as its text shows that.
package language

import (
	"bytes"
	"go/ast"
	"go/format"
	"go/parser"
	"go/token"
	"io/fs"
	"os"
	"path/filepath"
	"strings"
	"testing"
)

// source: one Go file of the program, tests left out.
type source struct {
	path string
	text []byte
	set  *token.FileSet
	file *ast.File
}

func parsed(t *testing.T, path string, text []byte) source {
	t.Helper()
	set := token.NewFileSet()
	file, err := parser.ParseFile(set, path, text, parser.ParseComments)
	if err != nil {
		t.Fatal(err)
	}
	return source{path, text, set, file}
}

// skipped: folders that are no part of the program.
func skipped(name string) bool {
	return name == "sharedtests" || len(name) > 2 && strings.HasPrefix(name, ".")
}

func sources(t *testing.T) []source {
	t.Helper()
	var all []source
	err := filepath.WalkDir("..", func(path string, d fs.DirEntry, err error) error {
		if err != nil {
			return err
		}
		if d.IsDir() && skipped(d.Name()) {
			return filepath.SkipDir
		}
		if d.IsDir() || !strings.HasSuffix(path, ".go") || strings.HasSuffix(path, "_test.go") {
			return nil
		}
		text, err := os.ReadFile(path)
		if err == nil {
			all = append(all, parsed(t, path, text))
		}
		return err
	})
	if err != nil || len(all) == 0 {
		t.Fatalf("%d sources, %v", len(all), err)
	}
	return all
}

func TestTheProgramKeepsToItsLanguage(t *testing.T) {
	for _, s := range sources(t) {
		for _, fault := range faults(s) {
			t.Error(fault)
		}
	}
}

// A test that finds nothing must be shown to find something.
func TestFaultsAreFound(t *testing.T) {
	for _, code := range []string{
		"import \"os\"", "import \"example.com/x\"", "var x int", "var x = []int{1}", "var x = [1]*int{nil}", "var x = [1]int{f()}",
		"func f() { go f() }", "func f() { defer f() }", "func f() { panic(1) }", "func f() { recover() }", "func f(c chan int) {}", "func f() { select {} }",
		"func f(m map[int]int) {}", "func f(x any) {}", "func f() error { return nil }", "type t interface{}", "func f[T int](x T) {}", "type t[T int] struct{ x T }",
		"func f() { _ = func() {} }", "func f(g func()) {}", "const x = 1.5", "var x = [1]float64{1}", "const x = 1i", "func f(l []int) int { return cap(l) }",
		"func f(l []int) { l[0], l[1] = 1, 2 }", "func f(r *t) { r.a, _ = g() }", "//go:noinline\nfunc f() {}", "func f() {" + strings.Repeat("\n\tf()", 50) + "\n}", "func f() {   }",
	} {
		s := parsed(t, "probe.go", []byte("package probe\n\n"+code+"\n"))
		if len(faults(s)) == 0 {
			t.Errorf("no fault is found in %q", code)
		}
	}
	right := "package probe\n\nimport (\n\t\"retrace/api\"\n\t\"strconv\"\n)\n\nvar table = [2]int{1, -2}\n\nvar names = [...]string{\"a\", \"b\"}\n\nfunc f(r api.Record) (string, int) {\n\ta, b := 1, 2\n\treturn strconv.Itoa(a), b\n}\n"
	for _, fault := range faults(parsed(t, "probe.go", []byte(right))) {
		t.Errorf("in right code: %s", fault)
	}
}

// faults: what in a file is outside the language.
func faults(s source) []string {
	var found []string
	add := func(at token.Pos, what string) {
		found = append(found, s.set.Position(at).String()+": "+what)
	}
	if laid, err := format.Source(s.text); err != nil || !bytes.Equal(laid, s.text) {
		add(s.file.Pos(), "not in gofmt's layout")
	}
	for _, i := range s.file.Imports {
		if i.Path.Value != `"strconv"` && !strings.HasPrefix(i.Path.Value, `"retrace/`) {
			add(i.Pos(), "imports "+i.Path.Value)
		}
	}
	for _, group := range s.file.Comments {
		for _, c := range group.List {
			if strings.HasPrefix(c.Text, "//go:") {
				add(c.Pos(), c.Text)
			}
		}
	}
	for _, d := range s.file.Decls {
		if what := wrongDeclaration(s, d); what != "" {
			add(d.Pos(), what)
		}
	}
	ast.Inspect(s.file, func(n ast.Node) bool {
		if what := wrongNode(n); what != "" {
			add(n.Pos(), what)
		}
		return true
	})
	return found
}

func wrongDeclaration(s source, d ast.Decl) string {
	switch d := d.(type) {
	case *ast.FuncDecl:
		if s.set.Position(d.End()).Line-s.set.Position(d.Pos()).Line > 45 {
			return "a long function"
		}
	case *ast.GenDecl:
		if d.Tok != token.VAR {
			return ""
		}
		for _, spec := range d.Specs {
			if !isTable(spec.(*ast.ValueSpec)) {
				return "a variable of the package that is no table"
			}
		}
	}
	return ""
}

// isTable: an array of constants, as it is written.
func isTable(v *ast.ValueSpec) bool {
	if len(v.Values) != 1 {
		return false
	}
	lit, ok := v.Values[0].(*ast.CompositeLit)
	if !ok {
		return false
	}
	array, ok := lit.Type.(*ast.ArrayType)
	if !ok || array.Len == nil {
		return false
	}
	right := true
	ast.Inspect(lit, func(n ast.Node) bool {
		switch n.(type) {
		case *ast.CallExpr, *ast.StarExpr, *ast.FuncLit:
			right = false
		}
		return right
	})
	return right
}

func wrongNode(n ast.Node) string {
	switch n := n.(type) {
	case *ast.GoStmt, *ast.DeferStmt, *ast.SelectStmt, *ast.SendStmt, *ast.ChanType, *ast.MapType, *ast.InterfaceType, *ast.FuncLit, *ast.TypeAssertExpr, *ast.TypeSwitchStmt:
		return "a statement or a type that is not in the language"
	case *ast.Ident:
		return wrongName(n.Name)
	case *ast.BasicLit:
		if n.Kind == token.FLOAT || n.Kind == token.IMAG {
			return "a float"
		}
	case *ast.FuncDecl:
		if n.Type.TypeParams != nil {
			return "a function with type parameters"
		}
	case *ast.TypeSpec:
		if n.TypeParams != nil {
			return "a type with type parameters"
		}
	case *ast.Field:
		if _, ok := n.Type.(*ast.FuncType); ok {
			return "a function value"
		}
	case *ast.AssignStmt:
		if len(n.Lhs) > 1 && !allNames(n.Lhs) {
			return "an assignment to several targets that are not all plain names"
		}
	}
	return ""
}

func wrongName(name string) string {
	switch name {
	case "panic", "recover", "cap", "any", "error", "float32", "float64", "complex64", "complex128":
		return "uses " + name
	}
	return ""
}

func allNames(l []ast.Expr) bool {
	for _, x := range l {
		if _, ok := x.(*ast.Ident); !ok {
			return false
		}
	}
	return true
}

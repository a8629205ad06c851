// Package language has tests alone: that the program's files keep to the rules
// of its language that their text shows.
package language

import (
	"bytes"
	"go/ast"
	"go/format"
	"go/parser"
	"go/token"
	"io/fs"
	"os"
	"path/filepath"
	"slices"
	"strconv"
	"strings"
	"testing"
)

const (
	module       = "concordance/"
	mostLines    = 60
	libraryNames = " bytes cmp container/heap errors iter maps math math/bits slices sort strconv strings sync sync/atomic unicode unicode/utf8 "
	syncNames    = " Mutex RWMutex WaitGroup Once "
)

// layers has the packages in the order of the document's map.
var layers = strings.Fields("keys sum device order page patch record wal twin pool mini space node blink scan bitmap buffer index tuple rows lock undo catalog query engine session reopen worker audit script")

type source struct {
	path string // below the project's root
	text []byte
	tree *ast.File
	fset *token.FileSet
}

func parse(t *testing.T, path string, text []byte) source {
	t.Helper()
	fset := token.NewFileSet()
	tree, err := parser.ParseFile(fset, path, text, parser.ParseComments)
	if err != nil {
		t.Fatal(err)
	}
	return source{path, text, tree, fset}
}

// program has the files of the program itself, without tests.
func program(t *testing.T) []source {
	t.Helper()
	var all []source
	err := filepath.WalkDir("..", func(path string, d fs.DirEntry, err error) error {
		if err != nil {
			return err
		}
		if d.IsDir() && (d.Name() == ".git" || d.Name() == "sharedtests") {
			return filepath.SkipDir
		}
		if d.IsDir() || !strings.HasSuffix(path, ".go") || strings.HasSuffix(path, "_test.go") {
			return nil
		}
		text, err := os.ReadFile(path)
		if err == nil {
			all = append(all, parse(t, filepath.ToSlash(path[len("../"):]), text))
		}
		return err
	})
	if err != nil {
		t.Fatal(err)
	}
	return all
}

// faults has what a file has against the rules, a line each.
func faults(s source) []string {
	var all []string
	tell := func(n ast.Node, what string) {
		all = append(all, s.fset.Position(n.Pos()).String()+": "+what)
	}
	if laid, err := format.Source(s.text); err != nil || !bytes.Equal(laid, s.text) {
		tell(s.tree, "not gofmt's layout")
	}
	importFaults(s, tell)
	for _, group := range s.tree.Comments {
		for _, c := range group.List {
			if strings.HasPrefix(c.Text, "//go:") || strings.HasPrefix(c.Text, "// +build") {
				tell(c, "a line for the compiler")
			}
		}
	}
	for _, d := range s.tree.Decls {
		switch d := d.(type) {
		case *ast.FuncDecl:
			if lines := s.fset.Position(d.End()).Line - s.fset.Position(d.Pos()).Line + 1; lines > mostLines {
				tell(d, d.Name.Name+" has "+strconv.Itoa(lines)+" lines")
			}
		case *ast.GenDecl:
			if d.Tok == token.VAR {
				variableFaults(d, tell)
			}
		}
	}
	ast.Inspect(s.tree, func(n ast.Node) bool {
		useFaults(n, tell)
		return true
	})
	return all
}

func importFaults(s source, tell func(ast.Node, string)) {
	own := slices.Index(layers, filepath.Base(filepath.Dir(s.path)))
	for _, i := range s.tree.Imports {
		path, _ := strconv.Unquote(i.Path.Value)
		name, ours := strings.CutPrefix(path, module)
		if !ours && !strings.Contains(libraryNames, " "+path+" ") {
			tell(i, "imports "+path)
		}
		if other := slices.Index(layers, name); ours && own >= 0 && other >= own {
			tell(i, "a layer leans on those below it alone, not on "+name)
		}
		if i.Name != nil && (i.Name.Name == "." || !ours) {
			tell(i, "another name for "+path)
		}
	}
}

func variableFaults(d *ast.GenDecl, tell func(ast.Node, string)) {
	for _, s := range d.Specs {
		v := s.(*ast.ValueSpec)
		if len(v.Values) != len(v.Names) {
			tell(v, "a variable without a value of its own")
		}
		for _, x := range v.Values {
			ast.Inspect(x, func(n ast.Node) bool {
				switch n := n.(type) {
				case *ast.FuncLit:
					tell(n, "a function at package level")
				case *ast.MapType:
					tell(n, "a map at package level")
				case *ast.CallExpr:
					if f, ok := n.Fun.(*ast.SelectorExpr); !ok || f.Sel.Name != "New" {
						tell(n, "a call at package level")
					}
				}
				return true
			})
		}
	}
}

func useFaults(n ast.Node, tell func(ast.Node, string)) {
	switch n := n.(type) {
	case *ast.SelectorExpr:
		p, ok := n.X.(*ast.Ident)
		if ok && p.Name == "sync" && !strings.Contains(syncNames, " "+n.Sel.Name+" ") || ok && p.Name == "iter" && strings.HasPrefix(n.Sel.Name, "Pull") {
			tell(n, p.Name+"."+n.Sel.Name)
		}
	case *ast.CallExpr:
		if f, ok := n.Fun.(*ast.Ident); ok && (f.Name == "print" || f.Name == "println") {
			tell(n, "prints")
		}
	case *ast.MapType:
		// One that is made and asked in one call may not be so, and a text doesn't
		// show in which calls a map is made and asked.
		if v, ok := n.Value.(*ast.Ident); ok && (v.Name == "bool" || v.Name == "string") {
			tell(n, "a map whose values are "+v.Name+"s")
		}
	}
}

func TestTheProgramKeepsToItsLanguage(t *testing.T) {
	all := program(t)
	if len(all) <= len(layers) {
		t.Errorf("only %d files", len(all))
	}
	for _, s := range all {
		for _, f := range faults(s) {
			t.Error(f)
		}
	}
}

func TestNoOtherFileStandsBesideTheGoFiles(t *testing.T) {
	for _, l := range append([]string{"api"}, layers...) {
		found, err := os.ReadDir(filepath.Join("..", l))
		if err != nil {
			t.Error(err)
		}
		for _, f := range found {
			if f.IsDir() || !strings.HasSuffix(f.Name(), ".go") {
				t.Error(l, f.Name())
			}
		}
	}
}

func TestFaultsAreFound(t *testing.T) {
	for _, text := range []string{
		"import \"fmt\"\n",
		"import \"unsafe\"\n",
		"import \"concordance/node\"\n",
		"import \"concordance/script\"\n",
		"import s \"sync\"\n",
		"import . \"concordance/sum\"\n",
		"import \"sync\"\n\nfunc f(m *sync.Map) {}\n",
		"import \"iter\"\n\nfunc f(s iter.Seq[int]) { iter.Pull(s) }\n",
		"//go:noinline\nfunc f() {}\n",
		"var n int\n",
		"var m = map[int]int{}\n",
		"var f = func() {}\n",
		"var n = len(\"abc\")\n",
		"func f() { println() }\n",
		"func f(m map[int]bool) {}\n",
		"type t struct{ m map[int]string }\n",
		"func  f() {}\n",
		"func f() {\n" + strings.Repeat("\tf()\n", mostLines-1) + "}\n",
	} {
		if len(faults(parse(t, "node/node.go", []byte("package node\n\n"+text)))) != 1 {
			t.Errorf("not one fault: %q", text)
		}
	}
	good := "package node\n\nimport (\n\t\"errors\"\n\n\t\"concordance/api\"\n\t\"concordance/space\"\n)\n\nvar table = [2]int{1, 2}\nvar err = errors.New(\"e\")\n\nfunc f() (api.Errno, space.T) { return 0, space.T{} }\n"
	if all := faults(parse(t, "node/node.go", []byte(good))); len(all) != 0 {
		t.Error(all)
	}
}

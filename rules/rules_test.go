// Package rules holds the program's text against the rules that it is written by.
package rules

import (
	"go/ast"
	"go/importer"
	"go/parser"
	"go/token"
	"go/types"
	"os"
	"path/filepath"
	"slices"
	"strings"
	"testing"
)

// layer is what the document's map and its section 'Ways' say of a package.
type layer struct {
	name  string
	calls string
	ways  string
}

// layers are those that are built.
var layers = []layer{
	{"octet", "", "range-integer variadic shift"},
	{"sha", "octet", "array range-function"},
	{"mac", "octet sha", "variadic range-function closure"},
	{"chacha", "octet", "array array-compared method-expression"},
	{"poly", "octet", "array array-compared range-function"},
	{"aead", "octet chacha poly", "errors-as closure variadic"},
	{"tree", "", "struct-compared fallthrough panic recover defer range-function"},
	{"order", "tree", "heap embedding promoted method-value method-expression variadic"},
	{"parse", "tree", "panic recover defer errors-as range-map fallthrough closure"},
	{"show", "tree", "embedding promoted closure method-value"},
	{"path", "tree", "closure struct-compared interface interface-call"},
	{"code", "octet tree", "method-value array panic recover defer range-function"},
	{"pad", "octet", "range-function shift closure"},
	{"keys", "octet mac code", "map map-of-arrays variadic method-value"},
	{"orac", "octet mac aead", "interface interface-call array map array-compared embedding promoted"},
	{"term", "tree path code", "range-function map delete generic-function closure"},
	{"chain", "octet keys orac", "range-function map delete interface-call method-value"},
	{"vault", "octet sha code", "method-expression closure method-value array panic recover defer"},
	{"wire", "octet code chain vault", "fallthrough generic-function closure variadic"},
	{"disk", "", "closure three-index"},
	{"host", "orac chain vault wire disk", "method-value array errors-as defer"},
	{"query", "tree order path term", "method-value generic-function closure heap"},
	{"model", "tree parse path code pad query", "method-expression array embedding promoted errors-as"},
	{"plan", "tree term query", "generic-function closure fallthrough map"},
	{"client", "octet code pad keys orac term chain vault wire query model plan", "function-field closure embedding promoted map struct-compared delete"},
	{"script", "code orac vault host model client", "method-value map method-expression range-function embedding promoted"},
}

var library = "bytes cmp container/heap errors iter maps math math/bits slices sort strconv strings sync sync/atomic unicode unicode/utf8"

// pack is a package's text, and its types.
type pack struct {
	name  string
	fset  *token.FileSet
	files []*ast.File
	info  *types.Info
}

// loader reads packages of the module from the folder above.
type loader struct {
	fset  *token.FileSet
	std   types.Importer
	known map[string]*types.Package
	packs map[string]pack
}

func newLoader() *loader {
	fset := token.NewFileSet()
	return &loader{fset: fset, std: importer.ForCompiler(fset, "source", nil), known: map[string]*types.Package{}, packs: map[string]pack{}}
}

func (x *loader) Import(name string) (*types.Package, error) {
	short, ours := strings.CutPrefix(name, "cryptex/")
	if !ours {
		return x.std.Import(name)
	}
	if p := x.known[name]; p != nil {
		return p, nil
	}
	p := pack{name: short, fset: x.fset, info: &types.Info{Types: map[ast.Expr]types.TypeAndValue{}, Uses: map[*ast.Ident]types.Object{}, Defs: map[*ast.Ident]types.Object{}, Selections: map[*ast.SelectorExpr]*types.Selection{}, Instances: map[*ast.Ident]types.Instance{}}}
	files, err := filepath.Glob(filepath.Join("..", short, "*.go"))
	if err != nil {
		return nil, err
	}
	for _, f := range files {
		if strings.HasSuffix(f, "_test.go") {
			continue
		}
		a, err := parser.ParseFile(x.fset, f, nil, parser.ParseComments)
		if err != nil {
			return nil, err
		}
		p.files = append(p.files, a)
	}
	tp, err := (&types.Config{Importer: x}).Check(name, x.fset, p.files, p.info)
	if err != nil {
		return nil, err
	}
	x.known[name], x.packs[short] = tp, p
	return tp, nil
}

func TestLayersAreWrittenByTheRules(t *testing.T) {
	x := newLoader()
	for _, l := range layers {
		if _, err := x.Import("cryptex/" + l.name); err != nil {
			t.Fatal(err)
		}
		p := x.packs[l.name]
		for _, f := range p.files {
			checkImports(t, l, f)
			checkComments(t, p, f)
			checkDecls(t, p, f)
		}
		got := p.ways()
		for _, w := range strings.Fields(l.ways) {
			if !got[w] {
				t.Errorf("%s: has no %s", l.name, w)
			}
		}
	}
}

func checkImports(t *testing.T, l layer, f *ast.File) {
	may := append(strings.Fields(library), "cryptex/api")
	for _, c := range strings.Fields(l.calls) {
		may = append(may, "cryptex/"+c)
	}
	for _, i := range f.Imports {
		if name := strings.Trim(i.Path.Value, `"`); !slices.Contains(may, name) {
			t.Errorf("%s: imports %s", l.name, name)
		}
	}
}

func checkComments(t *testing.T, p pack, f *ast.File) {
	for _, g := range f.Comments {
		for _, c := range g.List {
			if strings.HasPrefix(c.Text, "//go:") || strings.HasPrefix(c.Text, "// +build") {
				t.Errorf("%s: %s", p.name, c.Text)
			}
		}
	}
}

func checkDecls(t *testing.T, p pack, f *ast.File) {
	for _, d := range f.Decls {
		switch x := d.(type) {
		case *ast.FuncDecl:
			lines := p.fset.Position(x.End()).Line - p.fset.Position(x.Pos()).Line + 1
			if lines > 60 {
				t.Errorf("%s: %s has %d lines", p.name, x.Name.Name, lines)
			}
			if x.Recv == nil && x.Name.Name == "init" {
				t.Errorf("%s: func init", p.name)
			}
		case *ast.GenDecl:
			for _, s := range x.Specs {
				if v, ok := s.(*ast.ValueSpec); ok && x.Tok == token.VAR {
					checkVar(t, p, v)
				}
			}
		}
	}
}

// checkVar wants a table that is written out, and no pointer, map or function.
func checkVar(t *testing.T, p pack, v *ast.ValueSpec) {
	for i, n := range v.Names {
		if n.Name == "_" {
			continue
		}
		if i >= len(v.Values) {
			t.Errorf("%s: %s has no value of its own", p.name, n.Name)
			continue
		}
		switch p.info.Defs[n].Type().Underlying().(type) {
		case *types.Map, *types.Signature, *types.Pointer:
			t.Errorf("%s: %s stands at package level", p.name, n.Name)
		}
	}
}

func (p pack) under(e ast.Expr) types.Type {
	if t := p.info.Types[e].Type; t != nil {
		return t.Underlying()
	}
	return nil
}

// ways are the language's ways that a package's text has.
func (p pack) ways() map[string]bool {
	got := map[string]bool{}
	for _, f := range p.files {
		called := map[ast.Expr]bool{}
		ast.Inspect(f, func(n ast.Node) bool {
			if c, ok := n.(*ast.CallExpr); ok {
				called[ast.Unparen(c.Fun)] = true
			}
			p.statement(n, got)
			p.expression(n, got, called)
			return true
		})
	}
	return got
}

func (p pack) statement(n ast.Node, got map[string]bool) {
	switch x := n.(type) {
	case *ast.DeferStmt:
		got["defer"] = true
	case *ast.BranchStmt:
		if x.Tok == token.FALLTHROUGH {
			got["fallthrough"] = true
		}
	case *ast.RangeStmt:
		switch u := p.under(x.X).(type) {
		case *types.Map:
			got["range-map"] = true
		case *types.Signature:
			got["range-function"] = true
		case *types.Basic:
			if u.Info()&types.IsInteger != 0 {
				got["range-integer"] = true
			}
		}
	case *ast.FuncDecl:
		if x.Type.TypeParams != nil {
			got["generic-function"] = true
		}
	case *ast.StructType:
		for _, f := range x.Fields.List {
			if len(f.Names) == 0 {
				got["embedding"] = true
			}
			if _, ok := p.under(f.Type).(*types.Signature); ok {
				got["function-field"] = true
			}
		}
	}
}

func (p pack) expression(n ast.Node, got map[string]bool, called map[ast.Expr]bool) {
	switch x := n.(type) {
	case *ast.FuncLit:
		got["closure"] = true
	case *ast.MapType:
		got["map"] = true
		if _, ok := p.under(x.Value).(*types.Array); ok {
			got["map-of-arrays"] = true
		}
	case *ast.InterfaceType:
		if len(x.Methods.List) > 0 {
			got["interface"] = true
		}
	case *ast.Ellipsis:
		if x.Elt != nil {
			got["variadic"] = true
		}
	case *ast.ArrayType:
		if x.Len != nil {
			got["array"] = true
		}
	case *ast.SliceExpr:
		if x.Slice3 {
			got["three-index"] = true
		}
	case *ast.IndexExpr:
		if m, ok := p.under(x.X).(*types.Map); ok {
			p.compared(m.Key().Underlying(), got)
		}
	case *ast.BinaryExpr:
		switch x.Op {
		case token.SHL, token.SHR:
			got["shift"] = true
		case token.EQL, token.NEQ:
			p.compared(p.under(x.X), got)
		}
	case *ast.CallExpr:
		if f, ok := ast.Unparen(x.Fun).(*ast.Ident); ok {
			if b, ok := p.info.Uses[f].(*types.Builtin); ok {
				got[b.Name()] = true
			}
		}
	case *ast.SelectorExpr:
		p.selection(x, got, called)
	case *ast.Ident:
		if in, ok := p.info.Instances[x]; ok {
			for i := range in.TypeArgs.Len() {
				p.compared(in.TypeArgs.At(i).Underlying(), got)
			}
		}
	}
}

func (p pack) compared(u types.Type, got map[string]bool) {
	switch u.(type) {
	case *types.Array:
		got["array-compared"] = true
	case *types.Struct:
		got["struct-compared"] = true
	}
}

func (p pack) selection(x *ast.SelectorExpr, got map[string]bool, called map[ast.Expr]bool) {
	if o := p.info.Uses[x.Sel]; o != nil && o.Pkg() != nil {
		switch o.Pkg().Path() + "." + o.Name() {
		case "errors.As":
			got["errors-as"] = true
		case "container/heap.Init", "container/heap.Push", "container/heap.Pop", "container/heap.Fix":
			got["heap"] = true
		}
	}
	s := p.info.Selections[x]
	if s == nil {
		return
	}
	if len(s.Index()) > 1 {
		got["promoted"] = true
	}
	switch s.Kind() {
	case types.MethodExpr:
		got["method-expression"] = true
	case types.MethodVal:
		if !called[x] {
			got["method-value"] = true
		}
		f, ok := s.Obj().(*types.Func)
		if types.IsInterface(s.Recv()) || ok && types.IsInterface(f.Signature().Recv().Type()) {
			got["interface-call"] = true
		}
	}
}

func TestModule(t *testing.T) {
	b, err := os.ReadFile("../go.mod")
	if err != nil || !strings.HasPrefix(string(b), "module cryptex\n\ngo 1.27\n") || strings.Contains(string(b), "require") {
		t.Errorf("go.mod: %q, %v", b, err)
	}
}

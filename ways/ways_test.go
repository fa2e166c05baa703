// Package ways_test holds the texts of the layers' packages against the document's section 'Ways'.
package ways_test

import (
	"go/ast"
	"go/importer"
	"go/parser"
	"go/token"
	"go/types"
	"path/filepath"
	"strings"
	"testing"
)

// layers are those that are built, with their ways, as their chapters list them.
func layers() map[string]string {
	return map[string]string{
		"bits":  "range-function label variadic embedding promoted map delete",
		"jlex":  "range-function range-integer label map variadic fallthrough",
		"jtree": "range-function label variadic fallthrough map",
		"jread": "range-function label method-value variadic embedding promoted",
		"scope": "range-function label map embedding promoted",
		"value": "map closure range-string label fallthrough struct-compared",
		"heap":  "range-function label map embedding promoted variadic",
		"walk":  "range-function label defer recover type-switch map copy iota embedding promoted fallthrough",
		"code":  "range-function label map variadic closure",
		"lower": "range-function label variadic closure map method-value",
		"step":  "range-function label map method-value embedding promoted defer recover",
		"rules": "range-function label variadic map method-value fallthrough",
		"solve": "range-function label map embedding promoted variadic fallthrough",
		"least": "range-function label map closure variadic struct-compared",
		"graph": "range-function label map struct-compared three-index",
		"alias": "range-function label map closure variadic",
	}
}

// beside are the packages that are no layers, with what the layers that stand on them have in common.
func beside() map[string][]string {
	return map[string][]string{"walk": {"runs"}, "step": {"runs"}}
}

// source checks packages by their texts, each once: those of the project lie beside this one.
type source struct {
	types.Importer
	files    *token.FileSet
	info     *types.Info
	packages map[string]*types.Package
	texts    map[string][]*ast.File
}

func newSource() *source {
	files := token.NewFileSet()
	return &source{
		Importer: importer.ForCompiler(files, "source", nil),
		files:    files,
		info:     &types.Info{Types: map[ast.Expr]types.TypeAndValue{}, Selections: map[*ast.SelectorExpr]*types.Selection{}},
		packages: map[string]*types.Package{},
		texts:    map[string][]*ast.File{},
	}
}

func (s *source) Import(path string) (*types.Package, error) {
	layer, ok := strings.CutPrefix(path, "gumshoe/")
	if !ok {
		return s.Importer.Import(path)
	}
	if p := s.packages[layer]; p != nil {
		return p, nil
	}
	if err := s.parse(layer); err != nil {
		return nil, err
	}
	p, err := (&types.Config{Importer: s}).Check(path, s.files, s.texts[layer], s.info)
	s.packages[layer] = p
	return p, err
}

// parse reads a layer's texts, but for its tests.
func (s *source) parse(layer string) error {
	names, err := filepath.Glob(filepath.Join("..", layer, "*.go"))
	if err != nil {
		return err
	}
	for _, name := range names {
		if strings.HasSuffix(name, "_test.go") {
			continue
		}
		f, err := parser.ParseFile(s.files, name, nil, parser.SkipObjectResolution)
		if err != nil {
			return err
		}
		s.texts[layer] = append(s.texts[layer], f)
	}
	return nil
}

// looker finds ways in what it is shown.
type looker struct {
	*types.Info
	found map[string]bool
	calls map[ast.Expr]bool // what is called, and so is no value
}

// under is what kind of type an expression's is: nil if it has none.
func (l looker) under(x ast.Expr) types.Type {
	if t := l.TypeOf(x); t != nil {
		return t.Underlying()
	}
	return nil
}

func (l looker) look(n ast.Node) bool {
	switch n := n.(type) {
	case *ast.MapType:
		l.found["map"] = true
	case *ast.FuncLit:
		l.found["closure"] = true
	case *ast.DeferStmt:
		l.found["defer"] = true
	case *ast.TypeSwitchStmt:
		l.found["type-switch"] = true
	case *ast.Ident:
		if n.Name == "iota" {
			l.found["iota"] = true
		}
	case *ast.Ellipsis:
		l.found["variadic"] = true
	case *ast.BranchStmt:
		if n.Label != nil {
			l.found["label"] = true
		}
		l.found[n.Tok.String()] = true
	case *ast.StructType:
		for _, f := range n.Fields.List {
			if len(f.Names) == 0 {
				l.found["embedding"] = true
			}
		}
	case *ast.RangeStmt:
		l.ranged(n.X)
	case *ast.SliceExpr:
		if n.Slice3 {
			l.found["three-index"] = true
		}
	case *ast.BinaryExpr:
		if n.Op == token.EQL || n.Op == token.NEQ {
			l.compared(n.X)
		}
	case *ast.CallExpr:
		l.calls[n.Fun] = true
		if id, ok := n.Fun.(*ast.Ident); ok {
			l.found[id.Name] = true
		}
	case *ast.SelectorExpr:
		l.selected(n)
	}
	return true
}

func (l looker) ranged(x ast.Expr) {
	switch t := l.under(x).(type) {
	case *types.Signature:
		l.found["range-function"] = true
	case *types.Basic:
		if t.Info()&types.IsString != 0 {
			l.found["range-string"] = true
		} else {
			l.found["range-integer"] = true
		}
	}
}

func (l looker) compared(x ast.Expr) {
	if _, ok := l.under(x).(*types.Struct); ok {
		l.found["struct-compared"] = true
	}
}

func (l looker) selected(x *ast.SelectorExpr) {
	s := l.Selections[x]
	if s == nil {
		return
	}
	if len(s.Index()) > 1 {
		l.found["promoted"] = true
	}
	if s.Kind() == types.MethodVal && !l.calls[x] {
		l.found["method-value"] = true
	}
}

// The chapters' ways: the packages' texts have them, with those of the packages beside them.
func TestWays(t *testing.T) {
	s := newSource()
	for layer, ways := range layers() {
		if _, err := s.Import("gumshoe/" + layer); err != nil {
			t.Fatal(err)
		}
		l := looker{s.info, map[string]bool{}, map[ast.Expr]bool{}}
		for _, p := range append(beside()[layer], layer) {
			for _, f := range s.texts[p] {
				ast.Inspect(f, l.look)
			}
		}
		for _, way := range strings.Fields(ways) {
			if !l.found[way] {
				t.Errorf("%s has not the way %s", layer, way)
			}
		}
	}
}

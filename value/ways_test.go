package value_test

import (
	"go/ast"
	"go/importer"
	"go/parser"
	"go/token"
	"go/types"
	"path/filepath"
	"strings"
	"testing"
)

// source checks packages by their texts: those of the project lie beside this one.
type source struct {
	files *token.FileSet
	types.Importer
}

func (s source) Import(path string) (*types.Package, error) {
	own, ok := strings.CutPrefix(path, "gumshoe/")
	if !ok {
		return s.Importer.Import(path)
	}
	p, _, err := s.check("../"+own, &types.Info{})
	return p, err
}

func (s source) check(folder string, info *types.Info) (*types.Package, []*ast.File, error) {
	names, err := filepath.Glob(filepath.Join(folder, "*.go"))
	if err != nil {
		return nil, nil, err
	}
	var l []*ast.File
	for _, name := range names {
		if strings.HasSuffix(name, "_test.go") {
			continue
		}
		f, err := parser.ParseFile(s.files, name, nil, parser.SkipObjectResolution)
		if err != nil {
			return nil, nil, err
		}
		l = append(l, f)
	}
	p, err := (&types.Config{Importer: s}).Check(folder, s.files, l, info)
	return p, l, err
}

// looker finds ways in what it is shown.
type looker struct {
	info  *types.Info
	found map[string]bool
}

func (l looker) is(x ast.Expr, such func(t types.Type) bool) bool {
	t := l.info.TypeOf(x)
	return t != nil && such(t.Underlying())
}

func kind[T types.Type](t types.Type) bool {
	_, ok := t.(T)
	return ok
}

func aString(t types.Type) bool {
	b, ok := t.(*types.Basic)
	return ok && b.Info()&types.IsString != 0
}

func (l looker) look(n ast.Node) bool {
	switch n := n.(type) {
	case *ast.CompositeLit:
		for _, x := range n.Elts {
			if pair, ok := x.(*ast.KeyValueExpr); ok && l.is(n, kind[*types.Map]) {
				_, closure := pair.Value.(*ast.FuncLit)
				l.found["map of closures"] = l.found["map of closures"] || closure
			}
		}
	case *ast.RangeStmt:
		l.found["range over a string"] = l.found["range over a string"] || l.is(n.X, aString)
	case *ast.BranchStmt:
		l.found["label"] = l.found["label"] || n.Label != nil
		l.found["fallthrough"] = l.found["fallthrough"] || n.Tok == token.FALLTHROUGH
	case *ast.BinaryExpr:
		compared := (n.Op == token.EQL || n.Op == token.NEQ) && l.is(n.X, kind[*types.Struct])
		l.found["structs compared"] = l.found["structs compared"] || compared
	}
	return true
}

// The chapter's ways: the package's text has them.
func TestWays(t *testing.T) {
	files := token.NewFileSet()
	s := source{files, importer.ForCompiler(files, "source", nil)}
	l := looker{&types.Info{Types: map[ast.Expr]types.TypeAndValue{}}, map[string]bool{}}
	_, texts, err := s.check(".", l.info)
	if err != nil {
		t.Fatal(err)
	}
	for _, f := range texts {
		ast.Inspect(f, l.look)
	}
	for _, way := range []string{"map of closures", "range over a string", "label", "fallthrough", "structs compared"} {
		if !l.found[way] {
			t.Errorf("way missing: %s", way)
		}
	}
}

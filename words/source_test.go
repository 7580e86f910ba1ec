package words

import (
	"bytes"
	"errors"
	"go/ast"
	"go/format"
	"go/parser"
	"go/token"
	"go/types"
	"io/fs"
	"os"
	"path/filepath"
	"slices"
	"strconv"
	"strings"
	"testing"
)

const (
	root      = ".."
	mostLines = 60
)

// library: what the program may take of Go's library.
const library = " bytes cmp container/heap errors iter maps math math/bits slices sort strconv strings sync sync/atomic unicode unicode/utf8 "

type source struct {
	path, pack string
	text       []byte
	set        *token.FileSet
	file       *ast.File
}

func (s source) line(n ast.Node) string {
	return s.path + ":" + strconv.Itoa(s.set.Position(n.Pos()).Line)
}

// sources: the program's Go files, without its tests.
func sources(t *testing.T) []source {
	t.Helper()
	var all []source
	err := filepath.WalkDir(root, func(path string, d fs.DirEntry, err error) error {
		if err != nil {
			return err
		}
		if d.IsDir() && (d.Name() == "sharedtests" || d.Name() == ".git") {
			return filepath.SkipDir
		}
		if d.IsDir() || !strings.HasSuffix(path, ".go") || strings.HasSuffix(path, "_test.go") {
			return nil
		}
		text, err := os.ReadFile(path)
		if err != nil {
			return err
		}
		set := token.NewFileSet()
		file, err := parser.ParseFile(set, path, text, parser.ParseComments)
		if err != nil {
			return err
		}
		all = append(all, source{path, filepath.Base(filepath.Dir(path)), text, set, file})
		return nil
	})
	if err != nil {
		t.Fatal(err)
	}
	if len(all) < len(layers()) {
		t.Fatal("only", len(all), "files of the program were found")
	}
	return all
}

// layers: each layer's package, and the packages of the map that it may call.
func layers() map[string][]string {
	return map[string][]string{
		"api":     {},
		"ints":    {"api"},
		"value":   {"api"},
		"code":    {"api", "ints", "value"},
		"bags":    {"api", "ints", "value"},
		"graph":   {"api", "value"},
		"script":  {"api", "ints", "code", "graph"},
		"store":   {"api", "graph"},
		"lexer":   {"api", "ints"},
		"pred":    {"api", "value"},
		"tree":    {"api", "ints", "value", "graph", "pred"},
		"parser":  {"api", "graph", "lexer", "tree"},
		"plan":    {"api", "value", "graph", "pred"},
		"build":   {"api", "graph", "tree"},
		"types":   {"api", "plan"},
		"trail":   {"api", "value"},
		"gather":  {"api", "ints", "value"},
		"sorter":  {"api", "value"},
		"eval":    {"api", "value", "graph", "store", "pred", "types", "trail", "gather", "sorter"},
		"rules":   {"api", "ints", "plan", "pred"},
		"driver":  {"api", "plan", "rules"},
		"lower":   {"api", "value", "plan"},
		"machine": {"api", "ints", "value", "graph", "store", "pred", "plan", "types", "trail", "gather", "sorter", "lower"},
		"engine":  {"api", "ints", "code", "script", "parser", "build", "types", "driver", "lower", "machine"},
	}
}

func TestImports(t *testing.T) {
	for _, s := range sources(t) {
		for _, i := range s.file.Imports {
			path, err := strconv.Unquote(i.Path.Value)
			if err != nil {
				t.Fatal(err)
			}
			checkImport(t, s, i, path)
		}
	}
}

func checkImport(t *testing.T, s source, i *ast.ImportSpec, path string) {
	t.Helper()
	name, own := strings.CutPrefix(path, "wayfarer/")
	if !own {
		if !strings.Contains(library, " "+path+" ") {
			t.Errorf("%s: the program may not take package %s", s.line(i), path)
		}
		return
	}
	calls, from := layers()[s.pack]
	if _, to := layers()[name]; from && to && !slices.Contains(calls, name) {
		t.Errorf("%s: package %s may not call package %s", s.line(i), s.pack, name)
	}
}

func TestNothingIsPrintedNorTurnedOn(t *testing.T) {
	for _, s := range sources(t) {
		ast.Inspect(s.file, func(n ast.Node) bool {
			if c, ok := n.(*ast.CallExpr); ok {
				if f, ok := c.Fun.(*ast.Ident); ok && (f.Name == "print" || f.Name == "println") {
					t.Errorf("%s: the program prints", s.line(c))
				}
			}
			return true
		})
		for _, group := range s.file.Comments {
			for _, c := range group.List {
				if strings.HasPrefix(c.Text, "//go:") || strings.HasPrefix(c.Text, "// +build") {
					t.Errorf("%s: %s", s.line(c), c.Text)
				}
			}
		}
	}
}

func TestLayout(t *testing.T) {
	for _, s := range sources(t) {
		want, err := format.Source(s.text)
		if err != nil || !bytes.Equal(s.text, want) {
			t.Errorf("%s: not in gofmt's layout: %v", s.path, err)
		}
		for _, d := range s.file.Decls {
			f, ok := d.(*ast.FuncDecl)
			if ok && s.set.Position(f.End()).Line-s.set.Position(f.Pos()).Line >= mostLines {
				t.Errorf("%s: %s has more than %d lines", s.line(f), f.Name.Name, mostLines)
			}
		}
	}
}

// noImports: types are told without what a package stands on.
type noImports struct{}

func (noImports) Import(path string) (*types.Package, error) {
	return nil, errors.New("not looked at: " + path)
}

// waysOf: what a package names of other ones, what it ranges over, the keys of
// its maps, and whether functions stand in one, what stands in its arrays, and
// whether their indexes are named, which tables are literals at their
// declaration, whether it has interfaces, where it hands on closures, to what
// functions are handed in, whose pointers its methods have, what it embeds, and
// which of that is promoted (as far as it is its own), and by what switches it
// tells things apart.
func waysOf(t *testing.T, pack string) map[string]bool {
	t.Helper()
	found := map[string]bool{}
	set := token.NewFileSet()
	var files []*ast.File
	for _, s := range sources(t) {
		if s.pack == pack {
			file, err := parser.ParseFile(set, s.path, s.text, 0)
			if err != nil {
				t.Fatal(err)
			}
			files = append(files, file)
		}
	}
	info := &types.Info{Types: map[ast.Expr]types.TypeAndValue{}, Selections: map[*ast.SelectorExpr]*types.Selection{}}
	config := types.Config{Importer: noImports{}, Error: func(error) {}}
	config.Check("wayfarer/"+pack, set, files, info)
	for _, file := range files {
		for _, d := range file.Decls {
			lookForTables(d, found)
		}
		ast.Inspect(file, func(n ast.Node) bool {
			if n != nil {
				lookAt(n, info, found)
			}
			return true
		})
	}
	return found
}

// lookForTables lays down which variables of the package are declared with what
// stands in them.
func lookForTables(d ast.Decl, found map[string]bool) {
	group, ok := d.(*ast.GenDecl)
	if !ok {
		return
	}
	for _, s := range group.Specs {
		if v, ok := s.(*ast.ValueSpec); ok && len(v.Names) == 1 && len(v.Values) == 1 {
			if _, ok := v.Values[0].(*ast.CompositeLit); ok {
				found["table "+v.Names[0].Name] = true
			}
		}
	}
}

// lookAt lays down which ways there are in n, but not in what is within it.
func lookAt(n ast.Node, info *types.Info, found map[string]bool) {
	switch x := n.(type) {
	case *ast.SelectorExpr:
		found[types.ExprString(x)] = true
		// A promoted one is reached by way of what embeds it.
		if s := info.Selections[x]; s != nil && len(s.Index()) > 1 {
			found["promoted "+x.Sel.Name] = true
		}
	case *ast.FuncLit:
		found["closure"] = true
	case *ast.MapType:
		found["map of "+types.ExprString(x.Key)] = true
		if value := info.Types[x.Value].Type; value != nil && isFunction(value) {
			found["map of functions"] = true
		}
	case *ast.ArrayType:
		if x.Len != nil {
			found["array of "+types.ExprString(x.Elt)] = true
		}
	case *ast.CompositeLit:
		if a, ok := x.Type.(*ast.ArrayType); ok && a.Len != nil && !slices.ContainsFunc(x.Elts, isUnnamed) {
			found["named indexes of "+types.ExprString(a.Elt)] = true
		}
	case *ast.InterfaceType:
		found["interface"] = true
	case *ast.StructType:
		for _, f := range x.Fields.List {
			if len(f.Names) == 0 {
				found["embedding of "+types.ExprString(f.Type)] = true
			}
		}
	case *ast.Ellipsis:
		found["variadic "+types.ExprString(x.Elt)] = true
	case *ast.FuncDecl:
		if x.Recv != nil {
			found["method of "+types.ExprString(x.Recv.List[0].Type)] = true
		}
		for _, f := range x.Type.Params.List {
			if _, ok := f.Type.(*ast.FuncType); ok {
				found["function handed in to "+x.Name.Name] = true
			}
		}
	case *ast.SwitchStmt:
		if x.Tag != nil {
			found["switch by "+types.ExprString(x.Tag)] = true
		}
	case *ast.CaseClause:
		if slices.ContainsFunc(x.List, isRange) {
			found["switch with ranges"] = true
		}
	case *ast.RangeStmt:
		if over := info.Types[x.X].Type; over != nil {
			found["range over "+over.Underlying().String()] = true
			if isFunction(over) {
				found["range over a function"] = true
			}
		}
	}
}

func isFunction(t types.Type) bool {
	_, ok := t.Underlying().(*types.Signature)
	return ok
}

// isUnnamed: an item whose index no constant names.
func isUnnamed(e ast.Expr) bool {
	x, ok := e.(*ast.KeyValueExpr)
	if !ok {
		return true
	}
	_, number := x.Key.(*ast.BasicLit)
	return number
}

// isRange: two bounds, and what lies between them.
func isRange(e ast.Expr) bool {
	x, ok := e.(*ast.BinaryExpr)
	return ok && x.Op == token.LAND && isBound(x.X) && isBound(x.Y)
}

func isBound(e ast.Expr) bool {
	x, ok := e.(*ast.BinaryExpr)
	return ok && (x.Op == token.LEQ || x.Op == token.LSS)
}

func checkWays(t *testing.T, pack string, ways ...string) {
	t.Helper()
	found := waysOf(t, pack)
	for _, way := range ways {
		if !found[way] {
			t.Errorf("package %s has no %s", pack, way)
		}
	}
}

func TestWaysOfInts(t *testing.T) {
	checkWays(t, "ints", "bits.Add64", "bits.Mul64", "range over string", "range over []int", "variadic int")
}

func TestWaysOfValue(t *testing.T) {
	checkWays(t, "value", "cmp.Compare", "slices.CompareFunc", "closure", "variadic api.Value")
}

func TestWaysOfCode(t *testing.T) {
	checkWays(t, "code", "range over int", "method of *reader", "switch with ranges")
}

func TestWaysOfBags(t *testing.T) {
	checkWays(t, "bags", "slices.ContainsFunc", "slices.BinarySearchFunc", "slices.Insert", "closure", "ints.Add", "variadic api.Value")
}

func TestWaysOfGraph(t *testing.T) {
	checkWays(t, "graph", "map of int", "slices.IndexFunc", "slices.ContainsFunc", "closure", "switch with ranges")
}

func TestWaysOfScript(t *testing.T) {
	checkWays(t, "script", "map of string", "map of functions", "interface")
}

func TestWaysOfStore(t *testing.T) {
	checkWays(t, "store", "embedding of table", "embedding of vertices", "embedding of edges", "promoted which", "promoted find", "promoted seen", "map of side", "variadic int", "variadic string")
}

func TestWaysOfLexer(t *testing.T) {
	checkWays(t, "lexer", "iter.Seq", "range over a function", "closure", "switch with ranges", "ints.Parse")
}

func TestWaysOfPred(t *testing.T) {
	checkWays(t, "pred", "switch by p.Kind", "slices.ContainsFunc", "closure", "variadic api.Pred", "value.Check", "value.Same", "value.Cmp", "value.Copy")
}

// What a builder has is called by way of the writer that embeds it.
func TestWaysOfTree(t *testing.T) {
	checkWays(t, "tree", "embedding of strings.Builder", "w.WriteString", "w.WriteByte", "w.String", "array of string", "ints.Digits", "graph.Name", "value.Check", "value.Copy", "pred.Check", "pred.Copy")
}

// A row of tokens is embedded, and its own methods are called by way of the
// reader.
func TestWaysOfParser(t *testing.T) {
	checkWays(t, "parser", "embedding of row", "promoted next", "promoted place", "promoted take", "promoted skip", "function handed in to between", "closure", "lexer.All", "graph.Name", "tree.Print")
}

// Names, and shapes, are found by the names of Ops.
func TestWaysOfPlan(t *testing.T) {
	checkWays(t, "plan", "table names", "named indexes of string", "named indexes of shape", "variadic int", "iter.Seq", "closure", "function handed in to has", "slices.Contains", "graph.Name", "value.Check", "value.Copy", "value.Same", "pred.Check", "pred.Copy")
}

package order

import (
	"fmt"
	"go/ast"
	"go/importer"
	"go/parser"
	"go/token"
	"go/types"
	"path/filepath"
	"strings"
)

// look is packages that are read, and what was found in them.
type look struct {
	root, module string
	fset         *token.FileSet
	info         *types.Info
	std          types.Importer
	packs        map[string]*types.Package
	files        []*ast.File
	changes      map[types.Object]bool // the methods that may change what their receiver points to
	found        []string
}

// newLook answers a look at a module whose packages stand in folders beneath root.
func newLook(root, module string) *look {
	l := &look{root: root, module: module, fset: token.NewFileSet(), packs: map[string]*types.Package{}, changes: map[types.Object]bool{}}
	l.info = &types.Info{Types: map[ast.Expr]types.TypeAndValue{}, Uses: map[*ast.Ident]types.Object{}, Defs: map[*ast.Ident]types.Object{}, Selections: map[*ast.SelectorExpr]*types.Selection{}}
	l.std = importer.ForCompiler(l.fset, "source", nil)
	return l
}

// Import answers a package, read from its folder, if it is one of the module's.
func (l *look) Import(path string) (*types.Package, error) {
	folder, ok := strings.CutPrefix(path, l.module+"/")
	if !ok {
		return l.std.Import(path)
	}
	if l.packs[path] != nil {
		return l.packs[path], nil
	}
	names, err := filepath.Glob(filepath.Join(l.root, folder, "*.go"))
	if err != nil {
		return nil, err
	}
	var files []*ast.File
	for _, name := range names {
		if strings.HasSuffix(name, "_test.go") {
			continue
		}
		f, err := parser.ParseFile(l.fset, name, nil, 0)
		if err != nil {
			return nil, err
		}
		files = append(files, f)
	}
	return l.add(path, files...)
}

// add takes in a package of these files.
func (l *look) add(path string, files ...*ast.File) (*types.Package, error) {
	config := types.Config{Importer: l}
	pack, err := config.Check(path, l.fset, files, l.info)
	l.packs[path] = pack
	l.files = append(l.files, files...)
	return pack, err
}

// search looks through all that was read.
func (l *look) search() []string {
	for more := true; more; {
		more = false
		for _, f := range l.files {
			for _, d := range f.Decls {
				m, ok := d.(*ast.FuncDecl)
				if ok && !l.changes[l.info.Defs[m.Name]] && l.changing(m) {
					l.changes[l.info.Defs[m.Name]], more = true, true
				}
			}
		}
	}
	for _, f := range l.files {
		ast.Inspect(f, l.statement)
	}
	return l.found
}

// changing tells whether a method may change what its receiver points to, as far as is known of the methods it calls.
func (l *look) changing(m *ast.FuncDecl) bool {
	if m.Recv == nil || m.Body == nil || len(m.Recv.List[0].Names) == 0 {
		return false
	}
	self, changing := l.info.Defs[m.Recv.List[0].Names[0]], false
	if _, ok := self.Type().(*types.Pointer); !ok {
		return false
	}
	ast.Inspect(m.Body, func(n ast.Node) bool {
		var set []ast.Expr
		switch x := n.(type) {
		case *ast.AssignStmt:
			set = x.Lhs
		case *ast.IncDecStmt:
			set = []ast.Expr{x.X}
		case *ast.CallExpr:
			for _, c := range l.changed(x) {
				changing = changing || c.root == self
			}
		}
		for _, e := range set {
			root, path, _ := l.place(e)
			changing = changing || root == self && path != ""
		}
		return true
	})
	return changing
}

// spot is a variable, or a part of one, that is read, or that a call may change.
type spot struct {
	root types.Object
	path string
	kind types.Type
	at   ast.Node
}

// place answers the variable of an expression and the way from it to the part that the expression is.
func (l *look) place(e ast.Expr) (types.Object, string, bool) {
	var inner ast.Expr
	step := ""
	switch x := e.(type) {
	case *ast.Ident:
		v, ok := l.info.ObjectOf(x).(*types.Var)
		return v, "", ok
	case *ast.ParenExpr:
		inner = x.X
	case *ast.StarExpr:
		inner, step = x.X, ".*"
	case *ast.IndexExpr:
		inner, step = x.X, "[]"
	case *ast.SliceExpr:
		inner, step = x.X, "[]"
	case *ast.SelectorExpr:
		s := l.info.Selections[x]
		if s == nil {
			return nil, "", false
		}
		inner, step = x.X, steps(s)
	default:
		return nil, "", false
	}
	root, path, ok := l.place(inner)
	return root, path + step, ok
}

// steps answers the way to what is selected: through what is embedded, too.
func steps(s *types.Selection) string {
	way := ""
	kind := s.Recv()
	for _, i := range s.Index() {
		if p, ok := kind.Underlying().(*types.Pointer); ok {
			kind = p.Elem()
		}
		fields, ok := kind.Underlying().(*types.Struct)
		if !ok || i >= fields.NumFields() {
			break
		}
		if len(way) > 0 || s.Kind() == types.FieldVal || len(s.Index()) > 1 {
			way += "." + fields.Field(i).Name()
		}
		kind = fields.Field(i).Type()
	}
	return way
}

// spotOf answers the spot of an expression.
func (l *look) spotOf(e ast.Expr) (spot, bool) {
	root, path, ok := l.place(e)
	return spot{root, path, l.info.TypeOf(e), e}, ok
}

// changed answers what a call may change.
func (l *look) changed(call *ast.CallExpr) []spot {
	var out []spot
	put := func(e ast.Expr) {
		if s, ok := l.spotOf(e); ok {
			s.at = call
			out = append(out, s)
		}
	}
	name, _ := ast.Unparen(call.Fun).(*ast.Ident)
	if b, ok := l.info.ObjectOf(name).(*types.Builtin); name != nil && ok {
		if b.Name() == "copy" || b.Name() == "clear" || b.Name() == "delete" {
			put(call.Args[0])
		}
		return out
	}
	if s, ok := call.Fun.(*ast.SelectorExpr); ok && l.mayChange(s) {
		put(s.X)
	}
	for _, arg := range call.Args {
		if u, ok := ast.Unparen(arg).(*ast.UnaryExpr); ok && u.Op == token.AND {
			put(u.X)
		} else if t := l.info.TypeOf(arg); t != nil && isPointer(t) {
			put(arg)
		}
	}
	return out
}

// mayChange tells whether a method that is called may change what it is called of: others than the program's may.
func (l *look) mayChange(s *ast.SelectorExpr) bool {
	selection := l.info.Selections[s]
	if selection == nil || selection.Kind() != types.MethodVal {
		return false
	}
	f, _ := selection.Obj().(*types.Func)
	f = f.Origin()
	own := f.Pkg() != nil && strings.HasPrefix(f.Pkg().Path(), l.module)
	return isPointer(f.Signature().Recv().Type()) && (!own || l.changes[f])
}

// isPointer tells whether a type is a pointer.
func isPointer(t types.Type) bool {
	_, ok := t.Underlying().(*types.Pointer)
	return ok
}

// statement looks at what is worked out at once: a statement, or what one asks.
func (l *look) statement(n ast.Node) bool {
	switch x := n.(type) {
	case *ast.AssignStmt, *ast.ReturnStmt, *ast.ExprStmt, *ast.IncDecStmt, *ast.SendStmt, *ast.DeclStmt, *ast.GoStmt, *ast.DeferStmt:
		l.unit(n)
	case *ast.IfStmt:
		l.unit(x.Cond)
	case *ast.ForStmt:
		if x.Cond != nil {
			l.unit(x.Cond)
		}
	case *ast.SwitchStmt:
		if x.Tag != nil {
			l.unit(x.Tag)
		}
	case *ast.CaseClause:
		for _, e := range x.List {
			l.unit(e)
		}
	case *ast.RangeStmt:
		l.unit(x.X)
	}
	return true
}

// unit finds what is read and, at a time that the language leaves open, may be changed.
func (l *look) unit(n ast.Node) {
	u := reader{look: l}
	u.read(n)
	for _, c := range u.changed {
		for _, r := range u.reads {
			if !within(r.at, c.at) && touches(r, c) && !u.ordered(r.at, c.at) {
				l.found = append(l.found, fmt.Sprint(l.fset.Position(r.at.Pos()), ": ", r.root.Name(), r.path, " is read beside the call at ", l.fset.Position(c.at.Pos())))
			}
		}
	}
}

// touches tells whether what is read is, or has, or is part of what a call may change.
func touches(r, c spot) bool {
	if r.root != c.root {
		return false
	}
	deeper := strings.HasPrefix(r.path, c.path+".") || strings.HasPrefix(r.path, c.path+"[")
	if isPointer(c.kind) {
		return deeper
	}
	above := strings.HasPrefix(c.path, r.path+".") && !isPointer(r.kind)
	return deeper || above || r.path == c.path
}

// within tells whether a node is part of another one.
func within(inner, outer ast.Node) bool {
	return outer.Pos() <= inner.Pos() && inner.End() <= outer.End()
}

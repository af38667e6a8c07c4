package order

import (
	"go/ast"
	"go/token"
	"go/types"
)

// reader goes through what is worked out at once: what of it is read, what may be changed, and what has an order by &&
// and ||.
type reader struct {
	*look
	reads, changed []spot
	logical        []*ast.BinaryExpr
}

// ordered tells whether two nodes stand on the two sides of an && or ||: then the order is told.
func (u *reader) ordered(a, b ast.Node) bool {
	for _, x := range u.logical {
		if within(a, x.X) && within(b, x.Y) || within(a, x.Y) && within(b, x.X) {
			return true
		}
	}
	return false
}

// read goes through a node.
func (u *reader) read(n ast.Node) {
	ast.Inspect(n, func(n ast.Node) bool {
		switch x := n.(type) {
		case *ast.FuncLit:
			return false // it is made, not called
		case *ast.AssignStmt:
			u.assign(x)
			return false
		case *ast.CallExpr:
			u.call(x)
			return false
		case *ast.UnaryExpr:
			if x.Op == token.AND {
				u.address(x.X)
				return false
			}
		case *ast.BinaryExpr:
			if x.Op == token.LAND || x.Op == token.LOR {
				u.logical = append(u.logical, x)
			}
		case *ast.KeyValueExpr:
			if name, ok := x.Key.(*ast.Ident); ok {
				if v, ok := u.info.ObjectOf(name).(*types.Var); ok && v.IsField() {
					u.read(x.Value)
					return false
				}
			}
		case *ast.Ident, *ast.SelectorExpr, *ast.StarExpr, *ast.IndexExpr:
			return u.spot(x.(ast.Expr))
		}
		return true
	})
}

// spot: an expression is read, if it is a variable or a part of one; what stands in its brackets is, too.
func (u *reader) spot(e ast.Expr) bool {
	s, ok := u.spotOf(e)
	if !ok {
		return true
	}
	if s.root != nil {
		u.reads = append(u.reads, s)
	}
	u.brackets(e)
	return false
}

// brackets reads what stands in brackets on the way to a part of a variable.
func (u *reader) brackets(e ast.Expr) {
	switch x := e.(type) {
	case *ast.ParenExpr:
		u.brackets(x.X)
	case *ast.StarExpr:
		u.brackets(x.X)
	case *ast.SelectorExpr:
		u.brackets(x.X)
	case *ast.IndexExpr:
		u.brackets(x.X)
		u.read(x.Index)
	}
}

// address: of an expression whose address is taken, or that is set, what leads to it is read.
func (u *reader) address(e ast.Expr) {
	switch x := e.(type) {
	case *ast.ParenExpr:
		u.address(x.X)
	case *ast.StarExpr:
		u.read(x.X)
	case *ast.SelectorExpr:
		if t := u.info.TypeOf(x.X); t != nil && isPointer(t) {
			u.read(x.X)
		} else {
			u.address(x.X)
		}
	case *ast.IndexExpr:
		if _, ok := u.info.TypeOf(x.X).Underlying().(*types.Array); ok {
			u.address(x.X)
		} else {
			u.read(x.X)
		}
		u.read(x.Index)
	case *ast.Ident:
	default:
		u.read(e)
	}
}

// assign: what is set isn't read, unless by += and the like.
func (u *reader) assign(x *ast.AssignStmt) {
	for _, e := range x.Lhs {
		if x.Tok == token.ASSIGN || x.Tok == token.DEFINE {
			u.address(e)
		} else {
			u.read(e)
		}
	}
	for _, e := range x.Rhs {
		u.read(e)
	}
}

// call: a method that takes a pointer reads no more than that.
func (u *reader) call(x *ast.CallExpr) {
	u.changed = append(u.changed, u.look.changed(x)...)
	for _, arg := range x.Args {
		u.read(arg)
	}
	s, ok := x.Fun.(*ast.SelectorExpr)
	if !ok {
		u.read(x.Fun)
		return
	}
	selection := u.info.Selections[s]
	if selection == nil || selection.Kind() == types.FieldVal {
		u.read(x.Fun)
		return
	}
	if f, ok := selection.Obj().(*types.Func); ok && isPointer(f.Signature().Recv().Type()) && !isPointer(u.info.TypeOf(s.X)) {
		u.address(s.X)
		return
	}
	u.read(s.X)
}

package loom_test

import (
	"go/ast"
	"go/token"
	"go/types"
	"slices"
)

// reading is what an expression reads, and from where.
type reading struct {
	of     ast.Expr
	places []place
}

// unit is what Go evaluates together: of what stands in it, calls come one after the other, but what is read comes when it will.
type unit struct {
	*source
	calls  []*ast.CallExpr
	reads  []reading
	logics []*ast.BinaryExpr
}

// unordered tells the calls beside which something is read that they may change.
func (s *source) unordered() []string {
	var all []string
	for _, file := range s.files {
		ast.Inspect(file, func(n ast.Node) bool {
			for _, u := range s.unitsOf(n) {
				all = append(all, u.unordered()...)
			}
			return true
		})
	}
	return all
}

// unitsOf gives what is evaluated together in a statement, without those that stand in it.
func (s *source) unitsOf(n ast.Node) []*unit {
	switch x := n.(type) {
	case *ast.AssignStmt:
		u := s.unitOf(x.Rhs...)
		for _, e := range x.Lhs {
			if x.Tok != token.ASSIGN && x.Tok != token.DEFINE {
				u.read(e)
			} else {
				u.reach(e)
			}
		}
		return []*unit{u}
	case *ast.ReturnStmt:
		return []*unit{s.unitOf(x.Results...)}
	case *ast.ValueSpec:
		return []*unit{s.unitOf(x.Values...)}
	case *ast.ExprStmt:
		return []*unit{s.unitOf(x.X)}
	case *ast.DeferStmt:
		return []*unit{s.unitOf(x.Call)}
	case *ast.GoStmt:
		return []*unit{s.unitOf(x.Call)}
	case *ast.SendStmt:
		return []*unit{s.unitOf(x.Chan, x.Value)}
	case *ast.IncDecStmt:
		return []*unit{s.unitOf(x.X)}
	case *ast.IfStmt:
		return []*unit{s.unitOf(x.Cond)}
	case *ast.ForStmt:
		return []*unit{s.unitOf(x.Cond)}
	case *ast.RangeStmt:
		return []*unit{s.unitOf(x.X)}
	case *ast.SwitchStmt:
		return []*unit{s.unitOf(x.Tag)}
	case *ast.CaseClause:
		var each []*unit
		for _, e := range x.List {
			each = append(each, s.unitOf(e))
		}
		return each
	}
	return nil
}

func (s *source) unitOf(all ...ast.Expr) *unit {
	u := &unit{source: s}
	for _, e := range all {
		u.read(e)
	}
	return u
}

// read takes up an expression whose value is asked for.
func (u *unit) read(e ast.Expr) {
	switch x := e.(type) {
	case *ast.Ident:
		if of, ok := u.info.Uses[x].(*types.Var); ok {
			u.note(x, partsOf(of, of.Type()))
		}
	case *ast.SelectorExpr:
		if of, ok := u.info.Uses[x.Sel].(*types.Var); ok {
			u.note(x, partsOf(of.Origin(), of.Type()))
		}
		u.reach(x)
	case *ast.IndexExpr, *ast.StarExpr:
		t := u.typeOf(x)
		u.note(x, partsOf(lying(t), t))
		u.reach(x)
	case *ast.CallExpr:
		u.call(x)
	case *ast.BinaryExpr:
		if x.Op == token.LAND || x.Op == token.LOR {
			u.logics = append(u.logics, x)
		}
		u.read(x.X)
		u.read(x.Y)
	case *ast.UnaryExpr:
		if x.Op == token.AND {
			u.reach(x.X)
		} else {
			u.read(x.X)
		}
	default:
		u.readParts(e)
	}
}

// readParts takes up an expression that reads nothing but what its parts read.
func (u *unit) readParts(e ast.Expr) {
	switch x := e.(type) {
	case *ast.ParenExpr:
		u.read(x.X)
	case *ast.TypeAssertExpr:
		u.read(x.X)
	case *ast.SliceExpr:
		u.into(x.X)
		for _, at := range []ast.Expr{x.Low, x.High, x.Max} {
			u.read(at)
		}
	case *ast.CompositeLit:
		_, fields := u.typeOf(x).Underlying().(*types.Struct)
		for _, part := range x.Elts {
			pair, ok := part.(*ast.KeyValueExpr)
			if !ok {
				u.read(part)
				continue
			}
			if !fields {
				u.read(pair.Key)
			}
			u.read(pair.Value)
		}
	}
}

// note takes up that places are read, and what lies behind pointers, where one points to such a place.
func (u *unit) note(e ast.Expr, places []place) {
	all := slices.Clone(places)
	for _, p := range places {
		if of, ok := p.(types.Object); ok && u.pointed[of] {
			all = append(all, lying(of.Type()))
		}
	}
	u.reads = append(u.reads, reading{of: e, places: all})
}

// reach takes up what must be read to know where an expression lies.
func (u *unit) reach(e ast.Expr) {
	switch x := e.(type) {
	case *ast.Ident:
	case *ast.ParenExpr:
		u.reach(x.X)
	case *ast.SelectorExpr:
		u.noteEmbedded(x)
		u.into(x.X)
	case *ast.IndexExpr:
		u.into(x.X)
		u.read(x.Index)
	case *ast.StarExpr:
		u.read(x.X)
	default:
		u.read(e)
	}
}

// into takes up what must be read to know where a part of an expression lies.
func (u *unit) into(e ast.Expr) {
	if u.isPointer(e) {
		u.read(e)
	} else {
		u.reach(e)
	}
}

// noteEmbedded takes up fields without names that stand between.
func (u *unit) noteEmbedded(x *ast.SelectorExpr) {
	selection := u.info.Selections[x]
	if selection == nil {
		return
	}
	t := selection.Recv()
	path := selection.Index()
	for _, i := range path[:len(path)-1] {
		if p, ok := t.Underlying().(*types.Pointer); ok {
			t = p.Elem()
		}
		field := t.Underlying().(*types.Struct).Field(i)
		t = field.Type()
		if _, ok := t.Underlying().(*types.Pointer); ok {
			u.note(x, partsOf(field.Origin(), t))
		}
	}
}

func (u *unit) call(x *ast.CallExpr) {
	u.calls = append(u.calls, x)
	u.read(x.Fun)
	for _, e := range x.Args {
		u.read(e)
	}
}

// unordered tells the calls of a unit beside which something is read that they may change.
func (u *unit) unordered() []string {
	var all []string
	for _, c := range u.calls {
		for _, r := range u.reads {
			if !u.ordered(c, r.of) && u.mayChange(c, r.places) {
				all = append(all, u.fset.Position(c.Pos()).String()+": "+types.ExprString(c)+" beside "+types.ExprString(r.of))
			}
		}
	}
	return all
}

// ordered tells whether Go says which comes first: what one needs of the other does, and what stands left of && or ||.
func (u *unit) ordered(c, r ast.Expr) bool {
	if within(c, r) || within(r, c) {
		return true
	}
	for _, l := range u.logics {
		if within(c, l.X) && within(r, l.Y) || within(r, l.X) && within(c, l.Y) {
			return true
		}
	}
	return false
}

func within(inner, outer ast.Node) bool {
	return outer.Pos() <= inner.Pos() && inner.End() <= outer.End()
}

// mayChange tells whether a call may change what is at one of these places.
func (u *unit) mayChange(c *ast.CallExpr, places []place) bool {
	of := u.actors[u.callee(c)]
	changes := u.changedInArgs(c)
	return slices.ContainsFunc(places, func(p place) bool {
		if _, lies := p.(string); lies && of != nil && of.changes[anything] {
			return true
		}
		return of != nil && of.changes[p] || slices.Contains(changes, p)
	})
}

package loom_test

import (
	"go/ast"
	"go/importer"
	"go/parser"
	"go/token"
	"go/types"
	"path/filepath"
	"slices"
	"strings"
)

// place is where something is kept: a variable or field (types.Object), or all that lies in lists, or behind pointers, of one type (a string).
type place any

// actor is a function: what it changes by itself, what it calls, and, when all are known, what both change together.
type actor struct {
	calls   []any // *types.Func, *ast.FuncLit, or whoever
	changes map[place]bool
}

// whoever is the callee of a call of a function value, or by an interface: it may be any function of the program.
const whoever = "whoever"

// source is a program, as far as its text is known.
type source struct {
	fset     *token.FileSet
	info     *types.Info
	library  types.Importer
	packages map[string]*types.Package
	files    []*ast.File
	actors   map[any]*actor
	pointed  map[types.Object]bool
}

// library gives who reads the packages of the library from their text.
func library() (*token.FileSet, types.Importer) {
	fset := token.NewFileSet()
	return fset, importer.ForCompiler(fset, "source", nil)
}

func newSource(fset *token.FileSet, library types.Importer) *source {
	s := &source{fset: fset, library: library, packages: map[string]*types.Package{}, actors: map[any]*actor{}, pointed: map[types.Object]bool{}}
	s.info = &types.Info{Types: map[ast.Expr]types.TypeAndValue{}, Uses: map[*ast.Ident]types.Object{}, Defs: map[*ast.Ident]types.Object{}, Selections: map[*ast.SelectorExpr]*types.Selection{}}
	return s
}

// Import reads a package of the program, and all of the program that it imports.
func (s *source) Import(path string) (*types.Package, error) {
	folder, own := strings.CutPrefix(path, "loom/")
	if !own {
		return s.library.Import(path)
	}
	if known := s.packages[path]; known != nil {
		return known, nil
	}
	names, err := filepath.Glob(filepath.Join("..", folder, "*.go"))
	if err != nil {
		return nil, err
	}
	var files []*ast.File
	for _, name := range names {
		if strings.HasSuffix(name, "_test.go") {
			continue
		}
		file, err := parser.ParseFile(s.fset, name, nil, 0)
		if err != nil {
			return nil, err
		}
		files = append(files, file)
	}
	return s.add(path, files)
}

// add takes up a package.
func (s *source) add(path string, files []*ast.File) (*types.Package, error) {
	config := types.Config{Importer: s}
	p, err := config.Check(path, s.fset, files, s.info)
	s.packages[path] = p
	s.files = append(s.files, files...)
	return p, err
}

// typeOf gives the type of an expression, or, of a name that is none by itself, of what it names.
func (s *source) typeOf(e ast.Expr) types.Type {
	if t := s.info.TypeOf(e); t != nil {
		return t
	}
	return types.Typ[types.Invalid]
}

// anything is the place of all that lies in lists, or behind pointers, of a type that is left open.
const anything = "anything"

// lying is the place of all that lies in lists, or behind pointers, of a type.
func lying(t types.Type) place {
	if _, open := t.(*types.TypeParam); open {
		return anything
	}
	return strings.ReplaceAll(types.TypeString(t, nil), "byte", "uint8")
}

// partsOf gives the places that a value of a type at a place has: it, and those of its fields.
func partsOf(at place, t types.Type) []place {
	all := []place{at}
	switch u := t.Underlying().(type) {
	case *types.Struct:
		for field := range u.Fields() {
			all = append(all, partsOf(field.Origin(), field.Type())...)
		}
	case *types.Array:
		all = append(all, partsOf(lying(u.Elem()), u.Elem())...)
	}
	return all
}

// element gives what a list, a string or a map has, or a pointer points to.
func element(t types.Type) types.Type {
	switch u := t.Underlying().(type) {
	case *types.Slice:
		return u.Elem()
	case *types.Array:
		return u.Elem()
	case *types.Map:
		return u.Elem()
	case *types.Pointer:
		if array, ok := u.Elem().Underlying().(*types.Array); ok {
			return array.Elem()
		}
		return u.Elem()
	}
	return types.Typ[types.Uint8]
}

// isPointer tells whether what is reached by an expression lies behind it, not in it.
func (s *source) isPointer(e ast.Expr) bool {
	switch s.typeOf(e).Underlying().(type) {
	case *types.Struct, *types.Array:
		return false
	}
	return true
}

// learnAll makes known what each function changes, calls of others included.
func (s *source) learnAll() {
	s.actors[whoever] = &actor{changes: map[place]bool{}}
	for _, file := range s.files {
		for _, d := range file.Decls {
			if f, ok := d.(*ast.FuncDecl); ok && f.Body != nil {
				s.learn(s.info.Defs[f.Name], f.Body)
			}
		}
	}
	for s.spread() {
	}
}

// spread hands on what is changed from each callee to who calls it, and tells whether something was new.
func (s *source) spread() bool {
	news := false
	for _, a := range s.actors {
		for _, callee := range a.calls {
			of := s.actors[callee]
			if of == nil {
				continue
			}
			for p := range of.changes {
				news = news || !a.changes[p]
				a.changes[p] = true
			}
		}
	}
	return news
}

// learn goes through the body of one function. Those that stand in it change what they change when they are called.
func (s *source) learn(key any, body *ast.BlockStmt) {
	a := &actor{changes: map[place]bool{}}
	s.actors[key] = a
	s.actors[whoever].calls = append(s.actors[whoever].calls, key)
	ast.Inspect(body, func(n ast.Node) bool {
		switch x := n.(type) {
		case *ast.FuncLit:
			s.learn(x, x.Body)
			return false
		case *ast.AssignStmt:
			for _, e := range x.Lhs {
				s.learnChange(a, e)
			}
		case *ast.IncDecStmt:
			s.learnChange(a, x.X)
		case *ast.RangeStmt:
			if x.Tok == token.ASSIGN {
				s.learnChange(a, x.Key)
				s.learnChange(a, x.Value)
			}
			if _, ok := s.typeOf(x.X).Underlying().(*types.Signature); ok {
				a.calls = append(a.calls, whoever)
			}
		case *ast.UnaryExpr:
			s.learnPointed(x)
		case *ast.CallExpr:
			s.learnCall(a, x)
		}
		return true
	})
}

// learnPointed makes known that something may be changed by a pointer to it.
func (s *source) learnPointed(x *ast.UnaryExpr) {
	if x.Op != token.AND {
		return
	}
	switch to := ast.Unparen(x.X).(type) {
	case *ast.Ident:
		s.pointed[s.info.Uses[to]] = true
	case *ast.SelectorExpr:
		s.pointed[s.info.Uses[to.Sel]] = true
	}
}

// learnChange makes known that what an expression tells is changed.
func (s *source) learnChange(a *actor, e ast.Expr) {
	for _, p := range s.changedAt(e) {
		a.changes[p] = true
	}
}

// changedAt gives the places that are others when something was stored to an expression.
func (s *source) changedAt(e ast.Expr) []place {
	switch x := e.(type) {
	case *ast.ParenExpr:
		return s.changedAt(x.X)
	case *ast.Ident:
		if of := s.info.ObjectOf(x); of != nil {
			return partsOf(of, of.Type())
		}
	case *ast.SelectorExpr:
		of := s.info.Uses[x.Sel]
		if field, ok := of.(*types.Var); ok {
			of = field.Origin()
		}
		return partsOf(of, of.Type())
	case *ast.IndexExpr:
		return partsOf(lying(element(s.typeOf(x.X))), element(s.typeOf(x.X)))
	case *ast.StarExpr:
		return partsOf(lying(s.typeOf(x)), s.typeOf(x))
	}
	return nil
}

// learnCall makes known whom a function calls.
func (s *source) learnCall(a *actor, x *ast.CallExpr) {
	if callee := s.callee(x); callee != nil {
		a.calls = append(a.calls, callee)
	}
	for _, p := range s.changedInArgs(x) {
		a.changes[p] = true
	}
}

// changedInArgs gives what a function that is not the program's own may change: what lies in a list that it is given, or behind a pointer. (Of append that is the spare room, which others may have, too.)
func (s *source) changedInArgs(x *ast.CallExpr) []place {
	if !s.isForeign(x) {
		return nil
	}
	var all []place
	for _, e := range x.Args {
		switch s.typeOf(e).Underlying().(type) {
		case *types.Slice, *types.Map, *types.Pointer:
			of := element(s.typeOf(e))
			all = append(all, partsOf(lying(of), of)...)
		}
	}
	return all
}

// isForeign tells whether a call is of a function of the library, or one of the language itself that changes something.
func (s *source) isForeign(x *ast.CallExpr) bool {
	switch of := s.named(x).(type) {
	case *types.Builtin:
		return slices.Contains([]string{"append", "copy", "clear", "delete"}, of.Name())
	case *types.Func:
		return of.Pkg() != nil && s.packages[of.Pkg().Path()] == nil
	}
	return false
}

// named gives what the name tells by which something is called; nil without a name.
func (s *source) named(x *ast.CallExpr) types.Object {
	if name := calledName(x.Fun); name != nil {
		return s.info.Uses[name]
	}
	return nil
}

// callee gives who is called; nil of a conversion, and of a function of the language itself.
func (s *source) callee(x *ast.CallExpr) any {
	if s.info.Types[x.Fun].IsType() {
		return nil
	}
	switch of := s.named(x).(type) {
	case *types.Builtin:
		return nil
	case *types.Func:
		recv := of.Signature().Recv()
		if recv != nil && types.IsInterface(recv.Type()) || s.isForeign(x) && s.handsOn(x) {
			return whoever
		}
		return of.Origin()
	}
	return whoever
}

// handsOn tells whether a call is given what the callee may call in turn.
func (s *source) handsOn(x *ast.CallExpr) bool {
	return slices.ContainsFunc(x.Args, func(e ast.Expr) bool {
		switch s.typeOf(e).Underlying().(type) {
		case *types.Signature, *types.Interface:
			return true
		}
		return false
	})
}

// calledName gives the name by which a function is called; nil if there is none.
func calledName(e ast.Expr) *ast.Ident {
	switch x := ast.Unparen(e).(type) {
	case *ast.Ident:
		return x
	case *ast.SelectorExpr:
		return x.Sel
	case *ast.IndexExpr:
		return calledName(x.X)
	case *ast.IndexListExpr:
		return calledName(x.X)
	}
	return nil
}

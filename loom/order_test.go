package loom_test

import (
	"go/ast"
	"go/parser"
	"testing"

	"loom/api"
)

// P9, P10: what is left is what the fuel was, less one for each instruction that was come to, whatever the call comes to.
func TestLeftIsReadBehindTheRun(t *testing.T) {
	const text = `(module (func i32.const 1 drop) (func (result i32) i32.const 7) (func nop unreachable) (func)
(export "go" (func 0)) (export "seven" (func 1)) (export "stop" (func 2)) (export "none" (func 3)))`
	for _, c := range []struct {
		name string
		fuel int
		want api.Done
	}{
		{"go", 100, api.Done{Left: 98}},
		{"go", 3, api.Done{Left: 1}},
		{"go", 2, api.Done{}},
		{"go", 1, api.Done{Why: api.Spent}},
		{"go", 0, api.Done{Why: api.Spent}},
		{"go", api.MaxFuel, api.Done{Left: api.MaxFuel - 2}},
		{"seven", 100, api.Done{Results: list(7), Left: 99}},
		{"stop", 100, api.Done{Why: api.Stop, Left: 98}},
		{"none", 100, api.Done{Left: 100}},
	} {
		done, errno := made(t, text).Call(c.name, nil, c.fuel)
		if errno != api.OK || !sameDone(done, c.want) {
			t.Errorf("Call(%q, nil, %d) = %v, %d, want %v", c.name, c.fuel, done, errno, c.want)
		}
	}
}

// P2, P9: an answer must not hang on an order that Go leaves open. How the program is compiled here cannot show that: its text can.
func TestNothingIsReadBesideItsChange(t *testing.T) {
	s := newSource(library())
	if _, err := s.Import("loom/loom"); err != nil {
		t.Fatal(err)
	}
	s.learnAll()
	for _, found := range s.unordered() {
		t.Error(found)
	}
	if len(s.files) < 30 || len(s.actors) < 200 {
		t.Errorf("only %d files with %d functions were looked at", len(s.files), len(s.actors))
	}
}

// snippet is what stands around each statement of the test below.
const snippet = `package snippet
import "slices"
type pair struct { a, b int }
type thing struct { n int; list []int; deep pair; of *pair }
type outer struct { *thing; other *thing }
type doer interface { do() int }
func (t *thing) spend() int { t.n--; return 1 }
func (t *thing) far() int { return t.near() }
func (t *thing) near() int { t.spend(); t.deep.a++; return 2 }
func (t *thing) put() int { t.list = append(t.list[:0], 5); return 3 }
func (t *thing) look() int { return t.n }
func (t *thing) spot() *int { return &t.n }
func set(n *int) int { *n = 4; return 5 }
func pure(n int) int { return slices.Max([]int{n, 1}) }
func fill[T any](list []T, with T) int { list[0] = with; return 7 }
func (o *outer) move() int { o.thing = o.other; return 6 }
func use(...int) int { return 0 }
func all(t *thing, o *outer, f func() int, d doer) (int, int) {
	x := 1
	own := func() int { x++; return x }
	own()
	if x > 9 { return f(), d.do() }
	`

// unorderedIn gives what is found in a statement.
func unorderedIn(t *testing.T, s *source, statement string) []string {
	t.Helper()
	file, err := parser.ParseFile(s.fset, "snippet.go", snippet+statement+"\n return 0, 0 }", 0)
	if err != nil {
		t.Fatal(statement, err)
	}
	if _, err := s.add("snippet", []*ast.File{file}); err != nil {
		t.Fatal(statement, err)
	}
	s.learnAll()
	return s.unordered()
}

// What the test above looks for is found, by whatever way a call changes it, and nothing is that Go puts in order.
func TestUnorderedIsFound(t *testing.T) {
	fset, library := library()
	for _, statement := range []string{
		"_ = pair{a: t.spend(), b: t.n}",
		"_ = pair{t.n, t.far()}",
		"_ = []int{t.spend(), t.n}",
		"return t.spend(), t.n",
		"return t.n, t.far()",
		"use(t.n, t.spend())",
		"use(t.n + t.spend())",
		"if t.n > t.far() { return 0, 0 }",
		"for t.n > t.spend() { }",
		"switch t.n + t.spend() { }",
		"switch { case t.n > t.spend(): }",
		"t.n += t.spend()",
		"var y = t.n + t.spend(); _ = y",
		"_ = map[int]int{t.n: t.spend()}",
		"z, w := t.deep, t.far(); _, _ = z, w",
		"z, w := *t, t.spend(); _, _ = z, w",
		"z, w := t.list[0], t.put(); _, _ = z, w",
		"t.list = append(t.list, t.put())",
		"t.list[0] = t.put()",
		"_ = t.list[t.put():]",
		"_ = t.list[t.put()]",
		"_ = t.n + set(&t.n)",
		"_ = x + set(&x)",
		"z, w := *t, set(&t.n); _, _ = z, w",
		"z, w := t.list[0], fill(t.list, 1); _, _ = z, w",
		"_ = x + own()",
		"x += own()",
		"_ = t.n + f()",
		"_ = t.n + d.do()",
		"_ = o.n + o.move()",
		"o.n = o.move()",
		"z, w := t.list[0], slices.Insert(t.list, 0, 1); _, _ = z, w",
		"_ = t.n + slices.IndexFunc(t.list, func(int) bool { return t.spend() > 0 })",
		"_ = *t.spot() + t.look() + use(t.spend(), t.n)",
		"defer use(t.n, t.spend())",
	} {
		if found := unorderedIn(t, newSource(fset, library), statement); len(found) == 0 {
			t.Errorf("nothing was found in %s", statement)
		}
	}
	for _, statement := range []string{
		"why := t.spend(); _ = pair{why, t.n}",
		"return t.spend(), t.far()",
		"return t.spend(), t.look()",
		"use(t.n, t.look())",
		"use(t.deep.b, pure(t.n))",
		"pure(t.deep.a)",
		"_ = t.n > 0 && t.spend() > 0",
		"_ = t.spend() > 0 || t.n > 0",
		"set(&t.n)",
		"_ = *t.spot()",
		"_ = t.deep.b + t.far()",
		"t.n = t.spend()",
		"t.list = append(t.list, t.n)",
		"x = own()",
		"_ = t.deep.b + slices.Index(t.list, t.n)",
		"g := func() int { return t.n + 1 }; use(g())",
		"if y := t.spend(); y > t.n { return 0, 0 }",
	} {
		if found := unorderedIn(t, newSource(fset, library), statement); len(found) > 0 {
			t.Errorf("in %s was found: %v", statement, found)
		}
	}
}

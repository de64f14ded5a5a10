package assemble

import (
	"loom/api"
	"loom/code"
	"loom/module"
	"loom/token"
)

// kinds takes what goes in and comes out. Where params may have ids, these are put to the names.
func (a *assembler) kinds(names *[]module.Name) module.Type {
	var t module.Type
	t.In = a.groups("param", api.MaxParams, names, 0)
	t.Out = a.groups("result", api.MaxResults, nil, 0)
	return t
}

// groups takes all groups of kinds of a word that stand there, in all at most so many kinds. Where a kind may have an id, this is put to the names, which are counted from an index on.
func (a *assembler) groups(word string, most int, names *[]module.Name, from int) []code.Kind {
	var all []code.Kind
	take := func() {
		if len(all) == most {
			token.Refuse(a.Peek())
		}
		all = append(all, a.kind())
	}
	for a.Opens(word) {
		a.TakeOpen(word)
		if names != nil && a.declare(names, from+len(all)) {
			take()
		} else {
			for a.Peek().Sort == token.Word {
				take()
			}
		}
		a.Take(token.Close)
	}
	return all
}

func (a *assembler) kind() code.Kind {
	t := a.Take(token.Word)
	kind := code.KindOf(t.Text)
	if kind == code.Unknown {
		token.Refuse(t)
	}
	return kind
}

// use is what a function, a block or a call takes and gives.
type use struct {
	kinds module.Type
	told  bool   // by its index
	index uint32 // if it is told
}

// use takes what a function, a block or a call takes and gives.
func (a *assembler) use(names *[]module.Name) use {
	if !a.Opens("type") {
		return use{kinds: a.kinds(names)}
	}
	word := a.TakeOpen("type")
	index, named := a.index(a.found.types)
	a.Take(token.Close)
	u := use{told: true, index: index.Value}
	there := int64(u.index) < int64(len(a.m.Types))
	if named && there {
		u.kinds = a.m.Types[u.index]
	}
	again := a.Opens("param") || a.Opens("result")
	kinds := a.kinds(names)
	if named && again && !(there && kinds.Same(u.kinds)) {
		a.notice(api.ErrMatch, word)
	}
	return u
}

// typeIndex gives the index of the type that a use is, which is added if there is none.
func (a *assembler) typeIndex(u use) uint32 {
	if u.told {
		return u.index
	}
	for i, t := range a.m.Types {
		if t.Same(u.kinds) {
			return uint32(i)
		}
	}
	if len(a.m.Types) == api.MaxTypes {
		token.Refuse(a.Peek())
	}
	a.m.Types = append(a.m.Types, u.kinds)
	return uint32(len(a.m.Types) - 1)
}

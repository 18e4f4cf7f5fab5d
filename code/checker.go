package code

import (
	"slices"
	"strings"

	"eddywheel/api"
	"eddywheel/scope"
	"eddywheel/word"
)

// The fields of an instruction.
const (
	fieldA = iota
	fieldB
	fieldW
	fieldCount
)

// At its Op stands which fields an instruction has.
var fields = [...][]int{
	api.InWord:    {fieldW},
	api.InLocal:   {fieldA, fieldB},
	api.InName:    {fieldA},
	api.InSet:     {fieldA, fieldB},
	api.InSetName: {fieldA},
	api.InDef:     {fieldA},
	api.InPush:    {},
	api.InJump:    {fieldA},
	api.InNot:     {fieldA},
	api.InFn:      {fieldA},
	api.InPrim:    {fieldA, fieldB},
	api.InCall:    {fieldA},
	api.InTail:    {fieldA},
	api.InCC:      {},
	api.InCCTail:  {},
	api.InRet:     {},
}

// The names of the primitives that InPrim does; call/cc has instructions of its own. (Layer 9 tells of a primitive by its name alone.)
const primitives = "+ - * quotient remainder < = eq? not null? pair? cons car cdr number? symbol? procedure? out spawn micro after cancel promise settle then stream write read time"

// arities are the numbers of arguments of the primitives that InPrim does, by their numbers.
func arities() map[int]int {
	m := map[int]int{}
	for _, s := range strings.Fields(primitives) {
		if op, many, ok := scope.Prim(s); ok {
			m[op] = many
		}
	}
	return m
}

type checker struct {
	blocks  int
	arities map[int]int
}

// wrongAt is the first instruction that is wrong in a block to which so many words may be handed at most, or the first one of all if the block is wrong as a whole.
func (c checker) wrongAt(b api.Block, most int) (int, bool) {
	if b.Many < 0 || b.Many > most {
		return 0, true
	}
	depths, ok := Depth(b)
	if !ok || slices.Contains(depths, unreached) {
		return 0, true
	}
	for i, x := range b.L {
		if !c.may(x, depths[i]) {
			return i, true
		}
	}
	return 0, false
}

// may tells whether an instruction may be that has so many words on the stack ahead of it.
func (c checker) may(x api.Ins, depth int) bool {
	if x.Op < api.InWord || x.Op > api.InRet || hasOthers(x) || x.A < 0 || x.B < 0 || !isConstant(x.W) {
		return false
	}
	switch x.Op {
	case api.InFn:
		return x.A > 0 && x.A < c.blocks
	case api.InPrim:
		many, ok := c.arities[x.A]
		return ok && x.B == many
	case api.InTail, api.InCCTail, api.InRet:
		return depth == pops(x)
	}
	return true
}

// hasOthers tells whether something is in a field that an instruction does not have.
func hasOthers(x api.Ins) bool {
others:
	for field := range fieldCount {
		for _, own := range fields[x.Op] {
			if field == own {
				continue others
			}
		}
		if isFilled(x, field) {
			return true
		}
	}
	return false
}

func isFilled(x api.Ins, field int) bool {
	switch field {
	case fieldA:
		return x.A != 0
	case fieldB:
		return x.B != 0
	}
	return x.W != 0
}

// isConstant tells whether a word may stand in code: not where a thing is, as things are moved.
func isConstant(w api.Word) bool {
	_, isAddress := word.To(api.IsAt, w)
	return word.May(w) && !isAddress
}

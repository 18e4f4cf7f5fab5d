package gen

import (
	"slices"

	"eddywheel/api"
)

// step does a piece of the work, and tells the steps that come next, ahead of those that wait already. What a form adds to the blocks depends on all that was added before it, so it is a step that waits for its turn.
type step func() []step

type generator struct {
	forms  []api.Form
	blocks []api.Block
}

// generate is the blocks of forms whose parts are as they must be; the first one does what is at tops.
func generate(l []api.Form, tops []int) []api.Block {
	g := &generator{forms: l, blocks: make([]api.Block, 1)}
	follow(g.lastSequence(0, tops))
	return g.blocks
}

// follow does steps and all that they lead to. Those that wait are kept in a row, the next one last, as forms may be nested deeper than calls can be.
func follow(next []step) {
	var waiting []step
	for {
		for _, s := range slices.Backward(next) {
			waiting = append(waiting, s)
		}
		if len(waiting) == 0 {
			return
		}
		last := len(waiting) - 1
		s := waiting[last]
		waiting = waiting[:last]
		next = s()
	}
}

// put adds an instruction to a block.
func (g *generator) put(block int, x api.Ins) step {
	return func() []step {
		l := &g.blocks[block].L
		*l = append(*l, x)
		return nil
	}
}

// leap adds an instruction whose target is not known yet, and notes where it is.
func (g *generator) leap(block int, op uint8, at *int) step {
	return func() []step {
		*at = len(g.blocks[block].L)
		return []step{g.put(block, api.Ins{Op: op})}
	}
}

// land makes the next instruction the target of one that is noted.
func (g *generator) land(block int, at *int) step {
	return func() []step {
		l := g.blocks[block].L
		l[*at].A = len(l)
		return nil
	}
}

// value adds the code of a form that is not in tail position.
func (g *generator) value(block, i int) step {
	return func() []step {
		f := g.forms[i]
		switch f.Kind {
		case api.FoIf:
			return g.choice(block, f)
		case api.FoFn:
			return g.function(block, f)
		case api.FoSet, api.FoDef:
			return []step{g.value(block, f.L[0]), g.put(block, assignment(f))}
		case api.FoSeq:
			return g.sequence(block, f.L)
		case api.FoCall:
			return g.call(block, f, api.InCall)
		case api.FoPrim:
			return g.primitive(block, f)
		}
		return []step{g.put(block, lookup(f))}
	}
}

// last adds the code of a form in tail position.
func (g *generator) last(block, i int) step {
	return func() []step {
		f := g.forms[i]
		switch f.Kind {
		case api.FoIf:
			return g.lastChoice(block, f)
		case api.FoSeq:
			return g.lastSequence(block, f.L)
		case api.FoCall:
			return g.call(block, f, api.InTail)
		case api.FoPrim:
			if f.N == api.PrCC {
				return g.callCC(block, f, api.InCCTail)
			}
		}
		return g.returned(block, g.value(block, i))
	}
}

func (g *generator) returned(block int, l ...step) []step {
	return append(l, g.put(block, api.Ins{Op: api.InRet}))
}

func (g *generator) choice(block int, f api.Form) []step {
	var no, end int
	return []step{
		g.value(block, f.L[0]), g.leap(block, api.InNot, &no),
		g.value(block, f.L[1]), g.leap(block, api.InJump, &end),
		g.land(block, &no), g.value(block, f.L[2]),
		g.land(block, &end),
	}
}

func (g *generator) lastChoice(block int, f api.Form) []step {
	var no int
	return []step{
		g.value(block, f.L[0]), g.leap(block, api.InNot, &no),
		g.last(block, f.L[1]),
		g.land(block, &no), g.last(block, f.L[2]),
	}
}

func (g *generator) function(block int, f api.Form) []step {
	own := len(g.blocks)
	g.blocks = append(g.blocks, api.Block{Many: f.N})
	return []step{g.put(block, api.Ins{Op: api.InFn, A: own}), g.last(own, f.L[0])}
}

func (g *generator) sequence(block int, l []int) []step {
	if len(l) == 0 {
		return []step{g.put(block, api.Ins{Op: api.InWord, W: api.Unit})}
	}
	var steps []step
	for _, i := range l {
		steps = append(steps, g.value(block, i))
	}
	return steps
}

func (g *generator) lastSequence(block int, l []int) []step {
	steps := g.sequence(block, l)
	if len(l) == 0 {
		return g.returned(block, steps...)
	}
	end := len(l) - 1
	steps[end] = g.last(block, l[end])
	return steps
}

func (g *generator) call(block int, f api.Form, op uint8) []step {
	rest := f.L[1:]
	return append(g.pushed(block, rest), g.value(block, f.L[0]), g.put(block, api.Ins{Op: op, A: len(rest)}))
}

func (g *generator) callCC(block int, f api.Form, op uint8) []step {
	return []step{g.value(block, f.L[0]), g.put(block, api.Ins{Op: op})}
}

func (g *generator) primitive(block int, f api.Form) []step {
	if f.N == api.PrCC {
		return g.callCC(block, f, api.InCC)
	}
	return append(g.pushed(block, f.L), g.put(block, api.Ins{Op: api.InPrim, A: f.N, B: len(f.L)}))
}

// pushed are steps for forms whose values are put on the stack.
func (g *generator) pushed(block int, l []int) []step {
	var steps []step
	for _, i := range l {
		steps = append(steps, g.value(block, i), g.put(block, api.Ins{Op: api.InPush}))
	}
	return steps
}

// lookup is the instruction of a form without parts.
func lookup(f api.Form) api.Ins {
	switch f.Kind {
	case api.FoLocal:
		return api.Ins{Op: api.InLocal, A: f.A, B: f.N}
	case api.FoName:
		return api.Ins{Op: api.InName, A: f.N}
	}
	return api.Ins{Op: api.InWord, W: f.W}
}

// assignment is the instruction that gives a value to what a form names.
func assignment(f api.Form) api.Ins {
	switch {
	case f.Kind == api.FoDef:
		return api.Ins{Op: api.InDef, A: f.N}
	case f.A < 0:
		return api.Ins{Op: api.InSetName, A: f.N}
	}
	return api.Ins{Op: api.InSet, A: f.A, B: f.N}
}

package vm

import "eddywheel/api"

// The fields of a Pair, and how many there are.
const (
	pairFirst = iota
	pairSecond
	pairFields
)

// The fields of an Fn.
const (
	fnBlock = iota
	fnEnv
	fnFields
)

// The first field of an Env; the words of its function follow.
const envOuter = 0

// The fields of a Frame.
const (
	frameBlock = iota
	frameAt
	frameEnv
	frameStack
	frameFrame
	frameFields
)

// The fields of a Cont.
const (
	contFrame = iota
	contFields
)

func isCall(x api.Ins) bool {
	switch x.Op {
	case api.InCall, api.InTail, api.InCC, api.InCCTail:
		return true
	}
	return false
}

// callFirst calls a word for which the machine has no register.
func (m *Machine) callFirst(f api.Word, l []api.Word) api.Errno {
	if e := m.mayCall(f, len(l)); e != api.OK {
		return e
	}
	words, e := m.room(m.envWords(f, len(l)), append([]api.Word{f}, l...)...)
	if e != api.OK {
		return e
	}
	m.enter(words[0], api.Nil, words[1:])
	return api.OK
}

// call does an instruction that is a call. All that can go wrong is asked ahead of the first change, so that nothing is to be taken back.
func (m *Machine) call(x api.Ins) api.Errno {
	args, rest, e := m.popped(x.A)
	if e != api.OK {
		return e
	}
	takesCont := x.Op == api.InCC || x.Op == api.InCCTail
	many := x.A
	if takesCont {
		many = 1
	}
	if e := m.mayCall(m.value, many); e != api.OK {
		return e
	}
	makesFrame := x.Op == api.InCC || x.Op == api.InCall && !m.isCont(m.value)
	need := m.envWords(m.value, many)
	if makesFrame {
		need += wordsOf(frameFields)
	}
	if takesCont {
		need += wordsOf(contFields)
	}
	words, e := m.room(need, append(args, rest)...)
	if e != api.OK {
		return e
	}
	args, rest = words[:x.A], words[x.A]
	g := m.frame
	if makesFrame {
		g = m.frameAt(m.at+1, rest)
	}
	if takesCont {
		args = []api.Word{m.put(api.Cont, g)}
	}
	m.enter(m.value, g, args)
	return api.OK
}

// mayCall tells what goes wrong if a word is called with so many arguments.
func (m *Machine) mayCall(f api.Word, many int) api.Errno {
	if m.isCont(f) {
		return m.mayReturn(m.field(f, contFrame), many)
	}
	block, ok := m.blockOf(f)
	switch {
	case !ok:
		return api.ErrCall
	case m.blocks[block].Many != many:
		return api.ErrMany
	}
	return api.OK
}

// mayReturn tells what goes wrong if a Cont of a frame is called with so many arguments.
func (m *Machine) mayReturn(frame api.Word, many int) api.Errno {
	if many != 1 {
		return api.ErrMany
	}
	if frame == api.Nil {
		return api.OK
	}
	_, e := m.restored(frame)
	return e
}

// envWords is how many words the env uses that a call makes.
func (m *Machine) envWords(f api.Word, many int) int {
	if m.isCont(f) {
		return 0
	}
	return wordsOf(1 + many)
}

// enter calls a word that may be called so, and for which there is room.
func (m *Machine) enter(f, g api.Word, args []api.Word) {
	if m.isCont(f) {
		m.giveBack(args[0], m.field(f, contFrame))
		return
	}
	block, _ := m.blockOf(f)
	env := m.put(api.Env, append([]api.Word{m.field(f, fnEnv)}, args...)...)
	m.registers = registers{value: m.value, env: env, stack: api.Nil, frame: g, block: block}
}

// giveBack returns a word to a frame.
func (m *Machine) giveBack(w, frame api.Word) api.Errno {
	if frame == api.Nil {
		m.value, m.frame, m.state = w, api.Nil, api.StDone
		return api.OK
	}
	r, e := m.restored(frame)
	if e != api.OK {
		return e
	}
	r.value = w
	m.registers = r
	return api.OK
}

// frameAt is a new Frame, for which there is room, that leads back to an instruction of this block, with a stack.
func (m *Machine) frameAt(at int, stack api.Word) api.Word {
	return m.put(api.Frame, number(m.block), number(at), m.env, stack, m.frame)
}

// restored are the registers that a Frame leads back to; a Frame has no value.
func (m *Machine) restored(w api.Word) (registers, api.Errno) {
	if !m.is(w, api.Frame, frameFields) {
		return registers{}, api.ErrPart
	}
	block, ok := m.index(w, frameBlock, len(m.blocks))
	if !ok {
		return registers{}, api.ErrPart
	}
	at, ok := m.index(w, frameAt, len(m.blocks[block].L))
	if !ok {
		return registers{}, api.ErrPart
	}
	return registers{
		env:   m.field(w, frameEnv),
		stack: m.field(w, frameStack),
		frame: m.field(w, frameFrame),
		block: block,
		at:    at,
	}, api.OK
}

func (m *Machine) isCont(w api.Word) bool {
	return m.is(w, api.Cont, contFields)
}

// blockOf is the block of a function.
func (m *Machine) blockOf(w api.Word) (int, bool) {
	if !m.is(w, api.Fn, fnFields) {
		return 0, false
	}
	return m.index(w, fnBlock, len(m.blocks))
}

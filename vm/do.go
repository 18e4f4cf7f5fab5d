package vm

import (
	"eddywheel/api"
	"eddywheel/prim"
)

// do does the instruction at the position. With an error, it has done nothing.
func (m *Machine) do(x api.Ins) api.Errno {
	switch x.Op {
	case api.InWord:
		return m.goOn(x.W, api.OK)
	case api.InLocal:
		return m.goOn(m.local(x.A, x.B+1))
	case api.InName:
		return m.goOn(m.name(x.A))
	case api.InSet:
		return m.goOn(m.setLocal(x.A, x.B+1))
	case api.InSetName:
		return m.goOn(m.setName(x.A))
	case api.InDef:
		return m.goOn(m.define(x.A))
	case api.InPush:
		return m.push()
	case api.InJump:
		return m.jump(x.A)
	case api.InNot:
		if m.value == api.False {
			return m.jump(x.A)
		}
		return m.jump(m.at + 1)
	case api.InFn:
		return m.goOn(m.alloc(api.Fn, number(x.A), m.env))
	case api.InPrim:
		return m.primitive(x)
	case api.InRet:
		return m.giveBack(m.value, m.frame)
	}
	return m.call(x)
}

// goOn makes a word the value, if there is no error, and goes on to the next instruction.
func (m *Machine) goOn(w api.Word, e api.Errno) api.Errno {
	if e != api.OK {
		return e
	}
	m.value = w
	return m.jump(m.at + 1)
}

func (m *Machine) jump(at int) api.Errno {
	m.at = at
	return api.OK
}

// local is a field of the env so many levels out.
func (m *Machine) local(levels, i int) (api.Word, api.Errno) {
	env, e := m.envOut(levels)
	if e != api.OK {
		return 0, e
	}
	return m.envField(env, i)
}

// setLocal makes the value such a field; it answers the value that comes of that.
func (m *Machine) setLocal(levels, i int) (api.Word, api.Errno) {
	env, e := m.envOut(levels)
	if e != api.OK {
		return 0, e
	}
	if _, e := m.envField(env, i); e != api.OK {
		return 0, e
	}
	m.arena.Set(env, i, m.value)
	return api.Unit, api.OK
}

func (m *Machine) envOut(levels int) (api.Word, api.Errno) {
	env := m.env
	for range levels {
		outer, e := m.envField(env, envOuter)
		if e != api.OK {
			return 0, e
		}
		env = outer
	}
	return env, api.OK
}

func (m *Machine) envField(env api.Word, i int) (api.Word, api.Errno) {
	if m.arena.Kind(env) != api.Env {
		return 0, api.ErrPart
	}
	w, e := m.arena.Get(env, i)
	if e != api.OK {
		return 0, api.ErrPart
	}
	return w, api.OK
}

func (m *Machine) name(i int) (api.Word, api.Errno) {
	if !m.names.has(i) {
		return 0, api.ErrUnset
	}
	return m.names.words[i], api.OK
}

func (m *Machine) setName(i int) (api.Word, api.Errno) {
	if !m.names.has(i) {
		return 0, api.ErrUnset
	}
	return m.define(i)
}

func (m *Machine) define(i int) (api.Word, api.Errno) {
	if i >= len(m.names.words) {
		return 0, api.ErrUnset
	}
	m.names.set(i, m.value)
	return api.Unit, api.OK
}

func (m *Machine) push() api.Errno {
	stack, e := m.alloc(api.Pair, m.value, m.stack)
	if e != api.OK {
		return e
	}
	m.stack = stack
	return m.jump(m.at + 1)
}

// popped are the words that were pushed last, in the order in which they were pushed, and the stack without them. The stack itself stays, as what is done to the words may go wrong.
func (m *Machine) popped(many int) ([]api.Word, api.Word, api.Errno) {
	words := make([]api.Word, many)
	rest := m.stack
	for i := range words {
		// A machine can be resumed with fewer words on the stack than the code needs.
		if !m.is(rest, api.Pair, pairFields) {
			return nil, 0, api.ErrPart
		}
		words[many-1-i] = m.field(rest, pairFirst)
		rest = m.field(rest, pairSecond)
	}
	return words, rest, api.OK
}

// primitive does a pure primitive, and asks for any other.
func (m *Machine) primitive(x api.Ins) api.Errno {
	words, rest, e := m.popped(x.B)
	if e != api.OK {
		return e
	}
	if x.A > api.PrFn {
		m.op, m.asked, m.state = x.A, words, api.StHost
		m.stack = rest
		return m.jump(m.at + 1)
	}
	words, e = m.room(primWords(x.A), append(words, rest)...)
	if e != api.OK {
		return e
	}
	w, e := prim.Do(m.arena, x.A, words[:x.B]...)
	if e != api.OK {
		return e
	}
	m.stack = words[x.B]
	return m.goOn(w, api.OK)
}

// primWords is how many words a pure primitive needs.
func primWords(op int) int {
	if op == api.PrCons {
		return wordsOf(pairFields)
	}
	return 0
}

package vm_test

import (
	"strconv"
	"strings"
	"testing"

	"eddywheel/api"
	"eddywheel/show"
	"eddywheel/vm"
)

// calls are pieces of code that call their request's answer, with so many words.
func callers(many int) []string {
	n := strconv.Itoa(many)
	args := strings.Repeat("word 8; push; ", many)
	l := []string{
		args + ask + "; call " + n + "; ret",
		args + ask + "; tail " + n,
		"fn 1; call 0; ret | " + args + ask + "; tail " + n,
		"word 8; push; " + args + ask + "; call " + n + "; push; prim 1 2; ret",
	}
	if many == 1 {
		l = append(l, ask+"; cc; ret", ask+"; cctail", "word 8; push; "+ask+"; cc; push; prim 1 2; ret", "fn 1; call 0; ret | "+ask+"; cctail")
	}
	return l
}

// refusesCall asks that a call of a word is an error that has no other effect.
func refusesCall(t *testing.T, m *vm.Machine, w api.Word, want api.Errno) {
	t.Helper()
	if m.State() != stHost || m.Answer(w) != okay {
		t.Fatal(m.State())
	}
	reached, filled := m.Live(), m.Arena().Used()
	runs(t, m, 0, 0)
	stands(t, m, stReady, w, okay)
	runs(t, m, 3, 2)
	stands(t, m, stFail, w, want)
	live(t, m, reached)
	used(t, m, filled)
	runs(t, m, 3, 3)
}

func TestP13_3_CallsOfWhatIsNoFunction(t *testing.T) {
	for _, many := range []int{0, 1, 2, mostMany, mostMany + 1, 2 * mostMany} {
		for _, s := range callers(many) {
			for _, w := range plainWords() {
				m := begun(t, s+" | 1: word 8; ret")
				m.Run(1)
				refusesCall(t, m, w, errCall)
			}
			for _, x := range []struct {
				kind   int
				fields []api.Word
			}{
				{kindPair, []api.Word{num(0), null}}, {kindEnv, []api.Word{num(0), null}}, {kindFrame, []api.Word{num(0), null}}, {6, []api.Word{num(0), null}}, {9, []api.Word{num(0), null}}, {9, []api.Word{null}},
				{kindPair, []api.Word{null}}, {kindFrame, []api.Word{null}}, {kindFrame, []api.Word{num(0), num(0), null, null, null}}, {kindEnv, []api.Word{null}},
				{kindFn, nil}, {kindFn, []api.Word{num(0)}}, {kindFn, []api.Word{num(0), null, null}}, {kindFn, []api.Word{null}}, {kindFn, []api.Word{null, null}}, {kindFn, []api.Word{num(-1), null}},
				{kindFn, []api.Word{num(5), null}}, {kindFn, []api.Word{num(1 << 32), null}}, {kindFn, []api.Word{num(1 << 40), null}}, {kindFn, []api.Word{symbol(0), null}}, {kindFn, []api.Word{handle(0), null}}, {kindFn, []api.Word{at(0), null}}, {kindFn, []api.Word{yes, null}},
				{kindCont, nil}, {kindCont, []api.Word{null, null}}, {kindCont, []api.Word{num(0), null}}, {kindCont, make([]api.Word, 5)},
			} {
				m := begun(t, s+" | 1: word 8; ret | 1: word 8; ret")
				m.Run(1)
				refusesCall(t, m, made(t, m, x.kind, x.fields...), errCall)
			}
		}
	}
}

func TestP13_3_TheGreatestBlock(t *testing.T) {
	for blocks := 1; blocks < 5; blocks++ {
		s := ask + "; tail 0" + strings.Repeat(" | word 48; ret", blocks-1)
		for i := range 7 {
			m := begun(t, s)
			m.Run(0)
			m.Answer(made(t, m, kindFn, num(i), null))
			m.Run(1)
			switch {
			case i == 0:
				asks(t, m, hoTime)
			case i < blocks:
				stands(t, m, stDone, num(6), okay)
			default:
				stands(t, m, stFail, m.Value(), errCall)
			}
		}
	}
}

func TestP13_3_CallsWithAnotherNumberOfArguments(t *testing.T) {
	for _, takes := range []int{0, 1, 2, 3, mostMany} {
		for _, many := range []int{0, 1, 2, 3, mostMany - 1, mostMany, mostMany + 1, 250, 255, 256, 300} {
			for _, s := range callers(many) {
				m := mustNew(t, parse(s+" | "+strconv.Itoa(takes)+": word 48; ret"), 4000, 0)
				mustBegin(t, m, mustFn(t, m))
				m.Run(1)
				f := made(t, m, kindFn, num(strings.Count(s, "|")+1), null)
				if takes != many {
					refusesCall(t, m, f, errMany)
					continue
				}
				m.Answer(f)
				runs(t, m, 1, 0)
				if m.State() != stDone && m.State() != stReady && m.Fault() != errKind {
					t.Error(takes, s, m.State(), m.Fault())
				}
			}
		}
	}
	for _, many := range []int{0, 2, 3, mostMany, 300} {
		for _, s := range callers(many) {
			for _, frame := range []api.Word{null, num(1), at(500)} {
				m := mustNew(t, parse(s+" | 1: word 8; ret"), 4000, 0)
				mustBegin(t, m, mustFn(t, m))
				m.Run(1)
				refusesCall(t, m, made(t, m, kindCont, frame), errMany)
			}
		}
	}
}

func TestP13_3_WhatAFunctionIsCalledWith(t *testing.T) {
	for many := range 6 {
		for i := range many {
			args := ""
			for k := range many {
				args += "word " + strconv.Itoa(8*k+80) + "; push; "
			}
			n := strconv.Itoa(many)
			for _, how := range []string{"call " + n + "; ret", "tail " + n} {
				m := begun(t, args+"fn 1; "+how+" | "+n+": local 0 "+strconv.Itoa(i)+"; ret")
				runs(t, m, 2, 1)
				stands(t, m, stDone, num(i+10), okay)
			}
		}
	}
}

func TestP13_3_TheEnvOfAFunction(t *testing.T) {
	m := begun(t, "word 40; push; word 48; push; fn 1; call 2; ret | 2: fn 2; ret | 1: local 0 0; push; local 1 0; push; local 1 1; push; prim 12 2; push; prim 12 2; ret")
	runs(t, m, 5, 4)
	f := m.Value()
	a := m.Arena()
	l := fieldsOf(a, f)
	isObject(t, a, f, kindFn, num(2), l[1])
	outer := fieldsOf(a, l[1])[0]
	isObject(t, a, l[1], kindEnv, outer, num(5), num(6))
	isObject(t, a, outer, kindEnv, null)
	mustBegin(t, m, f, num(9))
	runs(t, m, 5, 5)
	if got := show.Word(m.Arena(), nil, m.Value()); m.State() != stDone || got != "(9 5 . 6)" {
		t.Error(m.State(), got)
	}
}

// aFrame is fields of a Frame that leads to the instruction 1 of the block 0.
func aFrame() []api.Word { return []api.Word{num(0), num(1), null, null, null} }

// wrongFrames are words that are no Frames to which a machine returns, of two blocks of three instructions and of one.
func wrongFrames(t *testing.T, m *vm.Machine) []api.Word {
	t.Helper()
	var l []api.Word
	for _, w := range plainWords() {
		if w != null {
			l = append(l, w)
		}
	}
	for _, kind := range []int{kindPair, kindFn, kindEnv, kindCont, 6, 9} {
		l = append(l, made(t, m, kind, aFrame()...))
	}
	for _, n := range []int{0, 1, 2, 3, 4, 6, 7} {
		l = append(l, made(t, m, kindFrame, append(aFrame(), null, null)[:n]...))
	}
	notInts := []api.Word{null, no, yes, unit, symbol(0), handle(0), at(0), num(1 << 40), 6, 7, 1<<63 | 1}
	for _, w := range append(notInts, num(-1), num(2), num(3), num(1<<32), num(1<<40-1), num(1-1<<40)) {
		f := aFrame()
		f[0] = w
		l = append(l, made(t, m, kindFrame, f...))
	}
	for _, w := range append(notInts, num(-1), num(3), num(4), num(1<<32), num(1<<40-1), num(1-1<<40)) {
		f := aFrame()
		f[1] = w
		l = append(l, made(t, m, kindFrame, f...))
	}
	for _, n := range []int{1, 2, 3} {
		f := aFrame()
		f[0], f[1] = num(1), num(n)
		l = append(l, made(t, m, kindFrame, f...))
	}
	return l
}

func TestP13_3_ReturnsToFramesThatAreWrong(t *testing.T) {
	l := parse("word 8; " + ask + "; cctail | ret")
	// A Cont of each: called by a request's answer, and by Begin.
	m := mustNew(t, l, 4000, 0)
	for i := range wrongFrames(t, m) {
		m := mustNew(t, l, 4000, 0)
		frame := wrongFrames(t, m)[i]
		k := made(t, m, kindCont, frame)
		mustBegin(t, m, mustFn(t, m))
		m.Run(0)
		refusesCall(t, m, k, errPart)

		m = mustNew(t, l, 4000, 0)
		k = made(t, m, kindCont, wrongFrames(t, m)[i])
		filled := m.Arena().Used()
		mustBegin(t, m, k, num(1))
		stands(t, m, stFail, m.Value(), errPart)
		used(t, m, filled)
	}
	// As what an InRet returns to: a machine is resumed by a Frame whose own frame is wrong.
	for i := range wrongFrames(t, m) {
		m := mustNew(t, l, 4000, 0)
		frame := wrongFrames(t, m)[i]
		w := made(t, m, kindFrame, num(1), num(0), null, mustCons(t, m, num(6), null), frame)
		if e := m.Resume(w); e != okay {
			t.Error(i, e)
		}
		reached := m.Live()
		runs(t, m, 5, 5)
		stands(t, m, stFail, num(6), errPart)
		live(t, m, reached)
	}
	// By each of the four calls.
	for _, s := range []string{"word 8; push; " + ask + "; call 1; ret", "word 8; push; " + ask + "; tail 1", ask + "; cc; ret", ask + "; cctail"} {
		for _, w := range []api.Word{num(1), unit, yes, at(700)} {
			m := begun(t, s)
			m.Run(0)
			refusesCall(t, m, made(t, m, kindCont, w), errPart)
		}
	}
}

func TestP13_3_AReturnToAFrame(t *testing.T) {
	// The Frame's env, stack and frame are those of the machine again.
	s := "word 40; push; word 48; push; fn 1; call 2; ret | 2: word 56; push; fn 2; call 0; push; local 0 0; push; local 0 1; push; prim 12 2; push; prim 12 2; push; prim 12 2; ret | " + return5
	m := begun(t, s)
	runs(t, m, 9, 7)
	if got := show.Word(m.Arena(), nil, m.Value()); m.State() != stDone || got != "(7 5 5 . 6)" {
		t.Error(m.State(), got)
	}
	// A Frame may lead to each instruction.
	l := parse("word 8; word 16; word 24; ret | 1: word 32; word 40; ret")
	for block, ends := range []int{4, 3} {
		for i := range ends {
			m := mustNew(t, l, 1000, 0)
			mustBegin(t, m, made(t, m, kindCont, made(t, m, kindFrame, num(block), num(i), null, null, null)), num(9))
			stands(t, m, stReady, num(9), okay)
			m.Run(0)
			want := num(9)
			if i < ends-1 {
				want = num(3 + 2*block)
			}
			stands(t, m, stDone, want, okay)
		}
	}
}

func TestP13_3_ContsWhoseFieldIsNil(t *testing.T) {
	// The stack and the env stay.
	for _, x := range []struct {
		s     string
		value api.Word
		live  int
	}{
		{"fn 1; cctail | 1: local 0 0; def 0; word 8; push; word 16; push; name 0; call 1; prim 9 1; ret", num(2), 2 + (2 + 1) + 2 + 6},
		{"fn 1; cctail | 1: local 0 0; def 0; word 8; push; name 0; tail 1", num(1), 2 + (2 + 1) + 2 + 3},
	} {
		m := begun(t, x.s)
		runs(t, m, 9, 7)
		stands(t, m, stDone, x.value, okay)
		live(t, m, x.live)
	}
	// Called within a call: the Frame of that is let go, unless the new Cont leads to it.
	const rest = wordsOfCont + 3*wordsOfEnv + 1
	for _, x := range []struct {
		s    string
		live int
	}{
		{"word 8; push; name 0; call 1; ret", rest + wordsOfPair},
		{"word 8; push; name 0; tail 1", rest + wordsOfPair},
		{"name 0; cc; ret", rest + wordsOfCont + 2*wordsOfFrame},
		{"name 0; cctail", rest + wordsOfCont + wordsOfFrame},
	} {
		m := begun(t, "fn 1; cctail | 1: local 0 0; def 0; word 72; set 0 0; fn 2; call 0; ret | "+x.s)
		runs(t, m, 9, 6)
		if m.State() != stDone {
			t.Error(x.s, m.State())
		}
		live(t, m, x.live)
	}
	// By InCC and InCCTail, the value is a new Cont, which is called with a word later.
	m := begun(t, "fn 1; cctail | 1: local 0 0; def 0; word 8; push; name 0; cc; push; prim 1 2; ret")
	runs(t, m, 9, 7)
	k := m.Value()
	if m.State() != stDone || m.Arena().Kind(k) != kindCont {
		t.Fatal(m.State(), uint64(k))
	}
	frame := fieldsOf(m.Arena(), k)[0]
	l := fieldsOf(m.Arena(), frame)
	isObject(t, m.Arena(), frame, kindFrame, num(1), num(6), l[2], l[3], null)
	isObject(t, m.Arena(), l[3], kindPair, num(1), null)
	live(t, m, 2+6+3+3+2+2)
	mustBegin(t, m, k, num(41))
	stands(t, m, stReady, num(41), okay)
	runs(t, m, 9, 9)
	stands(t, m, stDone, num(42), okay)
	m = begun(t, "fn 1; cctail | 1: local 0 0; def 0; word 8; fn 2; call 0; ret | name 0; cctail")
	runs(t, m, 9, 6)
	k = m.Value()
	if m.State() != stDone || m.Arena().Kind(k) != kindCont {
		t.Fatal(m.State(), uint64(k))
	}
	frame = fieldsOf(m.Arena(), k)[0]
	l = fieldsOf(m.Arena(), frame)
	isObject(t, m.Arena(), frame, kindFrame, num(1), num(5), l[2], null, null)
	// The env is still that of the last block.
	live(t, m, 2+6+2+3+2+2)
}

func TestP13_4_BeginInEachState(t *testing.T) {
	begin := func(m *vm.Machine, want api.Errno) {
		t.Helper()
		state, value, fault, reached := m.State(), m.Value(), m.Fault(), m.Live()
		i := mustKeep(t, m, mustFn(t, m))
		e := m.Begin(kept(t, m, i))
		m.Drop(i)
		if e != want {
			t.Error(state, e)
		}
		if want == okay {
			stands(t, m, stReady, unit, okay)
			m.Run(0)
			return
		}
		stands(t, m, state, value, fault)
		live(t, m, reached)
		if m.Begin(num(1)) != want || m.Begin(num(1), make([]api.Word, mostMany+1)...) != want {
			t.Error(state)
		}
	}
	begin(machine(t, return5), okay)
	m := begun(t, return5)
	begin(m, errState)
	m.Run(0)
	stands(t, m, stDone, num(5), okay)
	begin(m, okay)
	stands(t, m, stDone, num(5), okay)
	m = begun(t, ask+"; ret")
	m.Run(0)
	begin(m, errState)
	asks(t, m, hoTime)
	m.Fail(errOver)
	stands(t, m, stFail, unit, errOver)
	begin(m, okay)
	asks(t, m, hoTime)
	stands(t, m, stHost, unit, okay)
	m = begun(t, "name 19; ret")
	m.Run(0)
	begin(m, okay)
	stands(t, m, stFail, unit, errUnset)
	// Full.
	m = mustNew(t, parse("word 8; push; word 8; push; prim 12 2; "+ask+"; ret"), 10, 0)
	mustBegin(t, m, mustFn(t, m))
	m.Run(0)
	stands(t, m, stFull, num(1), okay)
	mustBegin(t, m, num(1))
	stands(t, m, stFail, unit, errCall)
	mustBegin(t, m, mustFn(t, m))
	stands(t, m, stReady, unit, okay)
	// After Save.
	m = begun(t, "fn 1; call 0; ret | "+return5)
	m.Run(0)
	mustSave(t, m)
	begin(m, okay)
	runs(t, m, 2, 1)
	stands(t, m, stDone, num(5), okay)
}

func TestP13_4_BeginWithManyWords(t *testing.T) {
	for _, many := range []int{0, 1, mostMany - 1, mostMany} {
		m := machine(t, return5+" | "+strconv.Itoa(many)+": word 8; ret")
		f := made(t, m, kindFn, num(1), null)
		args := make([]api.Word, mostMany+1, mostMany+9)
		for i := range args {
			args[i] = num(i)
		}
		for _, n := range []int{0, 1, 2, mostMany - 1, mostMany} {
			mustBegin(t, m, f, args[:n]...)
			if n != many {
				stands(t, m, stFail, unit, errMany)
				continue
			}
			stands(t, m, stReady, unit, okay)
			m.Run(0)
			stands(t, m, stDone, num(1), okay)
		}
		state, value, fault, filled := m.State(), m.Value(), m.Fault(), m.Arena().Used()
		for _, n := range []int{mostMany + 1, 200, 300, 70000} {
			if e := m.Begin(f, make([]api.Word, n)...); e != errArg {
				t.Error(n, e)
			}
			if e := m.Begin(num(1), make([]api.Word, n)...); e != errArg {
				t.Error(n, e)
			}
		}
		stands(t, m, state, value, fault)
		used(t, m, filled)
	}
}

func TestP13_4_WhatABeginCalls(t *testing.T) {
	for _, w := range plainWords() {
		for n := range 3 {
			m := machine(t, return5)
			mustBegin(t, m, w, make([]api.Word, n)...)
			stands(t, m, stFail, unit, errCall)
			used(t, m, 0)
		}
	}
	m := machine(t, return5)
	p := mustCons(t, m, num(0), null)
	mustBegin(t, m, p)
	stands(t, m, stFail, unit, errCall)
	// A Cont, with one word and with others.
	m = begun(t, "word 8; push; fn 1; cc; push; prim 1 2; ret | 1: local 0 0; push; prim 19 1; ret")
	m.Run(1)
	_, l := m.Asked()
	i := mustKeep(t, m, l[0])
	m.Answer(num(2))
	m.Run(0)
	stands(t, m, stDone, num(3), okay)
	for range 3 {
		m.Collect()
		mustBegin(t, m, kept(t, m, i), num(41))
		stands(t, m, stReady, num(41), okay)
		m.Run(0)
		stands(t, m, stDone, num(42), okay)
		mustBegin(t, m, kept(t, m, i))
		stands(t, m, stFail, unit, errMany)
		mustBegin(t, m, kept(t, m, i), num(1), num(2))
		stands(t, m, stFail, unit, errMany)
	}
	// One whose field is Nil ends at once.
	k := made(t, m, kindCont, null)
	mustBegin(t, m, k, num(77))
	stands(t, m, stDone, num(77), okay)
	mustBegin(t, m, k)
	stands(t, m, stFail, unit, errMany)
	p = mustCons(t, m, num(1), num(2))
	mustBegin(t, m, k, p)
	stands(t, m, stDone, p, okay)
	m.Collect()
	isObject(t, m.Arena(), m.Value(), kindPair, num(1), num(2))
}

func TestP13_4_TheWordsOfABeginAreNotKept(t *testing.T) {
	m := machine(t, return5+" | 2: local 0 0; push; local 0 1; push; prim 12 2; ret")
	l := []api.Word{num(1), num(2), num(3)}
	if e := m.Begin(made(t, m, kindFn, num(1), null), l[:2]...); e != okay || l[2] != num(3) {
		t.Error(e, l)
	}
	l[0], l[1] = num(7), num(8)
	m.Run(0)
	isObject(t, m.Arena(), m.Value(), kindPair, num(1), num(2))
	// Nor if garbage is collected.
	m = mustNew(t, parse(return5+" | 2: local 0 0; push; local 0 1; push; prim 12 2; ret"), 14, 0)
	mustCons(t, m, null, null)
	f := made(t, m, kindFn, num(1), null)
	p := mustCons(t, m, num(1), num(2))
	mustCons(t, m, null, null)
	l = []api.Word{p, p}
	mustBegin(t, m, f, l...)
	stands(t, m, stReady, unit, okay)
	if l[0] != p || l[1] != p {
		t.Error(l)
	}
}

func TestP13_4_SaveInEachState(t *testing.T) {
	refuses := func(m *vm.Machine) {
		t.Helper()
		state, value, fault, filled := m.State(), m.Value(), m.Fault(), m.Arena().Used()
		if w, e := m.Save(); w != 0 || e != errState {
			t.Error(state, w, e)
		}
		stands(t, m, state, value, fault)
		used(t, m, filled)
	}
	m := machine(t, ask+"; ret")
	refuses(m)
	mustBegin(t, m, mustFn(t, m))
	m.Run(0)
	refuses(m)
	m.Answer(num(1))
	m.Run(0)
	stands(t, m, stDone, num(1), okay)
	refuses(m)
	mustBegin(t, m, num(1))
	refuses(m)
	m = mustNew(t, parse("word 8; push; word 8; push; prim 12 2; ret"), 5, 0)
	mustBegin(t, m, mustFn(t, m))
	m.Run(0)
	stands(t, m, stFull, num(1), okay)
	refuses(m)
	m = begun(t, ask+"; ret")
	mustSave(t, m)
	refuses(m)
}

func TestP13_4_WhatSaveMakes(t *testing.T) {
	m := begun(t, "word 40; push; fn 1; call 0; push; prim 1 2; ret | word 48; push; word 56; push; word 64; fn 1; call 0; prim 1 2; ret")
	runs(t, m, 1, 0)
	stands(t, m, stReady, m.Value(), okay)
	f := m.Value()
	a := m.Arena()
	filled := a.Used()
	w := mustSave(t, m)
	if m.Arena() != a || a.Used() != filled+9 {
		t.Error(a.Used(), filled)
	}
	stands(t, m, stIdle, unit, okay)
	live(t, m, 0)
	asks(t, m, 0)
	l := fieldsOf(a, w)
	isObject(t, a, w, kindFrame, num(1), num(6), l[2], l[3], l[4])
	isObject(t, a, l[2], kindEnv, fieldsOf(a, l[4])[2])
	state := fieldsOf(a, l[3])
	isObject(t, a, l[3], kindPair, f, state[1])
	second := fieldsOf(a, state[1])
	isObject(t, a, state[1], kindPair, num(7), second[1])
	isObject(t, a, second[1], kindPair, num(6), null)
	outer := fieldsOf(a, l[4])
	isObject(t, a, l[4], kindFrame, num(0), num(4), outer[2], outer[3], null)
	isObject(t, a, outer[2], kindEnv, null)
	isObject(t, a, outer[3], kindPair, num(5), null)
	// It can be resumed more than once.
	i := mustKeep(t, m, w)
	for range 3 {
		if e := m.Resume(kept(t, m, i)); e != okay {
			t.Fatal(e)
		}
		if m.State() != stReady || m.Arena().Kind(m.Value()) != kindFn || m.Fault() != okay {
			t.Error(m.State(), uint64(m.Value()))
		}
		m.Collect()
		runs(t, m, 1, 0)
		m.Collect()
		if m.State() != stReady {
			t.Fatal(m.State())
		}
		mustSave(t, m)
	}
	// The name of a word, and a request, are not saved.
	m = begun(t, ask+"; ret")
	m.Run(0)
	m.Answer(num(9))
	w = mustSave(t, m)
	asks(t, m, 0)
	m.Resume(w)
	stands(t, m, stReady, num(9), okay)
	m.Run(0)
	stands(t, m, stDone, num(9), okay)
}

func TestP13_4_ResumeInEachState(t *testing.T) {
	m := begun(t, ask+"; ret")
	i := mustKeep(t, m, mustSave(t, m))
	resume := func(want api.Errno) {
		t.Helper()
		state, value, fault := m.State(), m.Value(), m.Fault()
		for _, w := range []api.Word{num(1), null, at(700)} {
			e := errArg
			if want != okay {
				e = want
			}
			if got := m.Resume(w); got != e {
				t.Error(state, got)
			}
		}
		stands(t, m, state, value, fault)
		if e := m.Resume(kept(t, m, i)); e != want {
			t.Error(state, e)
		}
		if want != okay {
			stands(t, m, state, value, fault)
			return
		}
		stands(t, m, stReady, unit, okay)
	}
	resume(okay)
	resume(errState)
	m.Run(0)
	resume(errState)
	asks(t, m, hoTime)
	m.Answer(num(4))
	resume(errState)
	m.Run(0)
	stands(t, m, stDone, num(4), okay)
	resume(okay)
	m.Run(0)
	m.Fail(errPart)
	stands(t, m, stFail, unit, errPart)
	resume(okay)
	mustSave(t, m)
	resume(okay)
	// Full.
	m = mustNew(t, parse("word 8; push; word 8; push; word 8; push; prim 12 2; push; prim 12 2; ret"), 16, 0)
	mustBegin(t, m, mustFn(t, m))
	i = mustKeep(t, m, mustSave(t, m))
	resume(okay)
	m.Run(0)
	stands(t, m, stFull, num(1), okay)
	resume(okay)
}

func TestP13_4_ResumeOfOtherWords(t *testing.T) {
	l := parse("word 8; word 16; ret | 1: ret")
	m := mustNew(t, l, 4000, 0)
	mustBegin(t, m, num(1))
	list := wrongFrames(t, m)
	for i, w := range append(list, null) {
		if e := m.Resume(w); e != errArg {
			t.Error(i, e)
		}
	}
	stands(t, m, stFail, unit, errCall)
	// The same ones, with a Pair as the stack.
	p := mustCons(t, m, num(6), null)
	for i, w := range list {
		if m.Arena().Kind(w) != kindFrame || m.Arena().Len(w) < 4 {
			continue
		}
		m.Arena().Set(w, 3, p)
		if e := m.Resume(w); e != errArg {
			t.Error(i, e)
		}
	}
	// And Frames whose stack is none.
	for _, w := range append(plainWords(), made(t, m, kindPair), made(t, m, kindPair, null), made(t, m, kindPair, null, null, null), made(t, m, kindEnv, null, null), made(t, m, kindCont, null, null), made(t, m, 9, null, null)) {
		f := aFrame()
		f[3] = w
		if e := m.Resume(made(t, m, kindFrame, f...)); e != errArg {
			t.Error(uint64(w), e)
		}
	}
	stands(t, m, stFail, unit, errCall)
	// The env and the frame may be anything, as long as they are not used.
	for _, w := range plainWords() {
		f := aFrame()
		f[2], f[3], f[4] = w, p, w
		if e := m.Resume(made(t, m, kindFrame, f...)); e != okay {
			t.Error(uint64(w), e)
		}
		stands(t, m, stReady, num(6), okay)
		m.Run(0)
		if w == null {
			stands(t, m, stDone, num(2), okay)
			continue
		}
		stands(t, m, stFail, num(2), errPart)
	}
	// Each instruction of each block.
	for block, many := range []int{3, 1} {
		for i := range many {
			f := made(t, m, kindFrame, num(block), num(i), null, p, null)
			if e := m.Resume(f); e != okay {
				t.Error(block, i, e)
			}
			stands(t, m, stReady, num(6), okay)
			m.Run(0)
			want := num(2)
			if i == many-1 {
				want = num(6)
			}
			stands(t, m, stDone, want, okay)
		}
	}
}

func TestP13_4_ResumeByAFrameOfACall(t *testing.T) {
	// It has the shape that Save's have if words are on the stack; one of them is then missing.
	m := begun(t, "word 8; push; word 16; push; fn 1; call 0; prim 1 2; ret | fn 2; cctail | 1: local 0 0; push; prim 19 1; ret")
	runs(t, m, 9, 7)
	_, l := m.Asked()
	frame := fieldsOf(m.Arena(), l[0])[0]
	i := mustKeep(t, m, frame)
	m.Answer(null)
	m.Run(0)
	stands(t, m, stDone, num(3), okay)
	if e := m.Resume(kept(t, m, i)); e != okay {
		t.Fatal(e)
	}
	stands(t, m, stReady, num(2), okay)
	reached := m.Live()
	runs(t, m, 9, 9)
	stands(t, m, stFail, num(2), errPart)
	live(t, m, reached)
	// Calls and requests, with too few words, and with a stack that is none.
	for _, s := range []string{"call 2; ret", "tail 2", "prim 25 2; ret", "prim 12 2; ret", "prim 1 2; ret"} {
		for _, stack := range []api.Word{null, num(1), at(500)} {
			m := machine(t, "word 8; push; word 8; push; word 8; "+s)
			w := made(t, m, kindFrame, num(0), num(4), null, mustCons(t, m, num(6), mustCons(t, m, num(7), stack)), null)
			if e := m.Resume(w); e != okay {
				t.Fatal(e)
			}
			reached := m.Live()
			m.Run(1)
			stands(t, m, stFail, num(1), errPart)
			live(t, m, reached)
			asks(t, m, 0)
		}
	}
}

package vm_test

import (
	"slices"
	"strconv"
	"strings"
	"testing"

	"eddywheel/api"
	"eddywheel/show"
	"eddywheel/vm"
)

// The pieces of code stop by a request ahead of the instruction that needs so many words; what they need after that is nothing. Name 0 is what they call.
func tightCases() []struct {
	s    string
	need int
} {
	args := func(n int) string { return strings.Repeat("word 8; push; ", n) }
	of := strconv.Itoa
	l := []struct {
		s    string
		need int
	}{
		{ask + "; push; " + ask + "; prim 9 1; ret", wordsOfPair},
		{args(2) + ask + "; push; " + ask + "; prim 9 1; push; prim 12 2; push; prim 12 2; ret", wordsOfPair},
		{ask + "; fn 1; " + ask + "; ret | " + return5, wordsOfFn},
		{args(2) + ask + "; prim 12 2; " + ask + "; ret", wordsOfPair},
		{args(3) + ask + "; prim 12 2; " + ask + "; push; prim 1 2; ret", wordsOfPair},
		// Of a Cont that leads back to where name 0 is called.
		{args(1) + "fn 1; cc; " + ask + "; name 0; call 1; ret | 1: local 0 0; def 0; ret", 0},
		{args(1) + "fn 1; cc; " + ask + "; name 0; tail 1 | 1: local 0 0; def 0; ret", 0},
		{"fn 1; cc; " + ask + "; name 0; cc; ret | 1: local 0 0; def 0; ret", wordsOfFrame + wordsOfCont},
		{"fn 1; cc; " + ask + "; name 0; cctail | 1: local 0 0; def 0; ret", wordsOfCont},
		{args(2) + "fn 1; cc; " + ask + "; name 0; cc; prim 1 2; ret | 1: local 0 0; def 0; ret", wordsOfFrame + wordsOfCont},
		// Of a Cont whose field is Nil.
		{"fn 1; cctail | 1: local 0 0; def 0; " + args(1) + ask + "; name 0; call 1; ret", 0},
		{"fn 1; cctail | 1: local 0 0; def 0; " + args(1) + ask + "; name 0; tail 1", 0},
		{"fn 1; cctail | 1: local 0 0; def 0; " + ask + "; name 0; cc; ret", wordsOfFrame + wordsOfCont},
		{"fn 1; cctail | 1: local 0 0; def 0; " + ask + "; name 0; cctail", wordsOfCont},
		// Of functions.
		{"fn 1; def 0; " + ask + "; name 0; cc; ret | 1: " + ask + "; ret", wordsOfFrame + wordsOfCont + wordsOfEnv + 1},
		{"fn 1; def 0; " + ask + "; name 0; cctail | 1: " + ask + "; ret", wordsOfCont + wordsOfEnv + 1},
		{"fn 1; def 0; " + args(3) + ask + "; name 0; cc; prim 1 2; push; prim 1 2; ret | 1: " + ask + "; ret", wordsOfFrame + wordsOfCont + wordsOfEnv + 1},
	}
	for _, n := range []int{0, 1, 2, 5, mostMany} {
		callee := " | " + of(n) + ": " + ask + "; ret"
		for _, x := range []struct {
			s    string
			need int
		}{
			{"fn 1; def 0; " + args(n) + ask + "; name 0; call " + of(n) + "; ret" + callee, wordsOfFrame + wordsOfEnv + n},
			{"fn 1; def 0; " + args(n+2) + ask + "; name 0; call " + of(n) + "; prim 1 2; ret" + callee, wordsOfFrame + wordsOfEnv + n},
			{"fn 1; def 0; " + args(n) + ask + "; name 0; tail " + of(n) + callee, wordsOfEnv + n},
			// The same, of a function within others.
			{"fn 1; tail 0 | fn 2; def 0; " + args(n) + ask + "; name 0; call " + of(n) + "; ret" + callee, wordsOfFrame + wordsOfEnv + n},
		} {
			l = append(l, x)
		}
	}
	return l
}

// stopped is a machine that has been answered, ahead of the instruction that matters.
func stopped(t *testing.T, s string, size int) *vm.Machine {
	t.Helper()
	m := mustNew(t, parse(s), size, 1)
	mustBegin(t, m, mustFn(t, m))
	m.Run(9)
	if m.State() != stHost || m.Answer(num(7)) != okay {
		t.Fatal(s, size, m.State())
	}
	return m
}

// tight is such a machine with just so many words that are not reached: the others are used by Pairs that are kept.
func tight(t *testing.T, s string, spare int) *vm.Machine {
	t.Helper()
	const fill = 150
	size := stopped(t, s, 2000).Live() + fill*wordsOfPair + spare
	m := stopped(t, s, size)
	for range fill {
		mustKeep(t, m, mustCons(t, m, null, null))
	}
	if size-m.Live() != spare {
		t.Fatal(s, spare, size, m.Live())
	}
	return m
}

func TestP13_2_JustEnough(t *testing.T) {
	for _, x := range tightCases() {
		for _, collected := range []bool{false, true} {
			m := tight(t, x.s, x.need)
			if collected {
				m.Collect()
				used(t, m, m.Arena().Size()-x.need)
			}
			runs(t, m, 1, m.Run(0)+boolInt(!isCalling(x.s)))
			if s := m.State(); s != stHost && s != stDone || m.Fault() != okay {
				t.Errorf("%s with %d words: %d, %d", x.s, x.need, m.State(), m.Fault())
			}
			if collected {
				used(t, m, m.Arena().Size())
			}
		}
	}
}

// isCalling tells whether what matters in a piece of code is a call: what follows its first request.
func isCalling(s string) bool {
	_, rest, _ := strings.Cut(s, ask)
	return strings.HasPrefix(rest, "; name 0; ")
}

func boolInt(is bool) int {
	if is {
		return 1
	}
	return 0
}

func TestP13_2_OneWordLess(t *testing.T) {
	for _, x := range tightCases() {
		if x.need == 0 {
			continue
		}
		for _, spare := range []int{x.need - 1, x.need - 2, 0} {
			for _, collected := range []bool{false, true} {
				m := tight(t, x.s, spare)
				if collected {
					m.Collect()
				}
				m.Run(0)
				kind, reached := m.Arena().Kind(m.Value()), m.Live()
				if !isCalling(x.s) {
					kind, reached = 0, m.Live()
				}
				runs(t, m, 1, boolInt(!isCalling(x.s)))
				if m.State() != stFull || m.Fault() != okay || m.Live() != reached {
					t.Errorf("%s with %d words: %d, %d, %d, %d", x.s, spare, m.State(), m.Fault(), m.Live(), reached)
				}
				if k := m.Arena().Kind(m.Value()); k != kind || k == 0 && m.Value() != num(7) {
					t.Error(x.s, k, m.Value())
				}
				used(t, m, m.Arena().Size()-spare)
				runs(t, m, 5, 5)
				if m.State() != stFull {
					t.Error(m.State())
				}
			}
		}
	}
}

func TestP13_2_JustEnoughForFnAndCons(t *testing.T) {
	for _, make := range []func(m *vm.Machine) (api.Word, api.Errno){
		func(m *vm.Machine) (api.Word, api.Errno) { return m.Fn() },
		func(m *vm.Machine) (api.Word, api.Errno) { return m.Cons(num(1), num(2)) },
	} {
		for size := 1; size < 12; size++ {
			m := mustNew(t, parse(return5), size, 0)
			fits := size / 3
			for i := range 12 {
				w, e := make(m)
				if i < fits {
					if w != at(3*i) || e != okay {
						t.Error(size, i, w, e)
					}
					mustKeep(t, m, w)
					continue
				}
				if w != 0 || e != errRoom || m.Arena().Used() != 3*fits {
					t.Error(size, i, w, e, m.Arena().Used())
				}
			}
			stands(t, m, stIdle, unit, okay)
			// What is not kept makes room.
			if fits > 0 {
				m.Drop(0)
				if w, e := make(m); w != at(3*fits-3) || e != okay {
					t.Error(size, w, e)
				}
			}
		}
	}
}

func TestP13_2_FnAndConsInEachState(t *testing.T) {
	for _, s := range []string{return5, ask + "; ret", "name 0; ret", "word 8; tail 0"} {
		for _, room := range []int{2, 3} {
			m := mustNew(t, parse(s), 5+room-3+3, 1)
			f := mustFn(t, m)
			i := mustKeep(t, m, f)
			mustBegin(t, m, f)
			m.Run(1)
			state, value, fault := m.State(), m.Value(), m.Fault()
			for range 3 {
				w, e := m.Cons(num(1), num(2))
				if room == 3 {
					if e != okay {
						t.Error(s, e)
					}
					isObject(t, m.Arena(), w, kindPair, num(1), num(2))
				} else if w != 0 || e != errRoom {
					t.Error(s, w, e)
				}
				w, e = m.Fn()
				if room == 3 {
					if e != okay {
						t.Error(s, e)
					}
					isObject(t, m.Arena(), w, kindFn, num(0), null)
				} else if w != 0 || e != errRoom {
					t.Error(s, w, e)
				}
			}
			stands(t, m, state, value, fault)
			isObject(t, m.Arena(), kept(t, m, i), kindFn, num(0), null)
		}
	}
}

func TestP13_2_JustEnoughForSave(t *testing.T) {
	const need = wordsOfFrame + wordsOfPair
	for _, s := range []string{ask + "; ret", "word 8; push; word 16; push; " + ask + "; prim 1 2; ret", "fn 1; call 0; ret | word 8; push; " + ask + "; prim 9 1; ret"} {
		for spare := range need {
			m := tight(t, s, spare)
			reached := m.Live()
			for range 2 {
				if w, e := m.Save(); w != 0 || e != errRoom {
					t.Error(s, spare, w, e)
				}
				stands(t, m, stReady, num(7), okay)
				live(t, m, reached)
			}
			// It goes on nevertheless.
			m.Run(9)
			if m.State() != stDone {
				t.Error(s, spare, m.State())
			}
		}
		m := tight(t, s, need)
		w := mustSave(t, m)
		used(t, m, m.Arena().Size())
		stands(t, m, stIdle, unit, okay)
		if m.Arena().Kind(w) != kindFrame || m.Resume(w) != okay {
			t.Error(s, uint64(w))
		}
		stands(t, m, stReady, num(7), okay)
	}
}

func TestP13_2_JustEnoughForBegin(t *testing.T) {
	// The function alone is reached besides its env: it is an argument of Begin.
	for _, n := range []int{0, 1, 2, 50, mostMany} {
		for _, spare := range []int{-2, -1, 0, 1} {
			m := mustNew(t, parse(return5+" | "+strconv.Itoa(n)+": word 8; ret"), wordsOfFn+wordsOfEnv+n+spare, 0)
			mustBegin(t, m, made(t, m, kindFn, num(1), null), slices.Repeat([]api.Word{num(9)}, n)...)
			if spare < 0 {
				stands(t, m, stFull, unit, okay)
				live(t, m, 0)
				used(t, m, wordsOfFn)
				continue
			}
			stands(t, m, stReady, unit, okay)
			live(t, m, wordsOfEnv+n)
			used(t, m, wordsOfFn+wordsOfEnv+n)
		}
	}
	for _, x := range []struct {
		size, state int
	}{{4, stFull}, {5, stReady}, {6, stReady}} {
		m := mustNew(t, parse(return5), x.size, 0)
		mustBegin(t, m, mustFn(t, m))
		stands(t, m, x.state, unit, okay)
	}
	// A Cont needs nothing.
	m := mustNew(t, parse(return5), wordsOfCont, 0)
	mustBegin(t, m, made(t, m, kindCont, null), num(3))
	stands(t, m, stDone, num(3), okay)
}

func TestP13_2_TheWordsOfABeginAreHeld(t *testing.T) {
	const need = wordsOfFn + 3*wordsOfPair + wordsOfEnv + 3
	for _, garbage := range []int{0, 1, need - wordsOfFn - 3*wordsOfPair} {
		for spare := -1; spare < 2; spare++ {
			for i := range 3 {
				m := mustNew(t, parse(return5+" | 3: local 0 "+strconv.Itoa(i)+"; ret"), need+spare, 0)
				for range garbage + spare {
					made(t, m, kindCont)
				}
				a := mustCons(t, m, num(1), num(5))
				b := mustCons(t, m, num(2), a)
				mustBegin(t, m, made(t, m, kindFn, num(1), null), a, b, mustCons(t, m, num(3), num(6)))
				if spare < 0 {
					stands(t, m, stFull, unit, okay)
					continue
				}
				stands(t, m, stReady, unit, okay)
				live(t, m, need-wordsOfFn)
				m.Run(0)
				if got := show.Word(m.Arena(), nil, m.Value()); m.State() != stDone || got != []string{"(1 . 5)", "(2 1 . 5)", "(3 . 6)"}[i] {
					t.Error(garbage, spare, i, m.State(), got)
				}
			}
		}
	}
}

func TestP13_2_ABeginHoldsNothingOfWhatWasBefore(t *testing.T) {
	// It fills its memory by frames, envs and a stack.
	s := "fn 1; def 0; word 8; push; name 0; call 1; ret | 1: local 0 0; push; local 0 0; push; word 8; push; name 0; call 1; prim 1 2; ret"
	for size := 30; size < 60; size++ {
		m := mustNew(t, parse(s), size, 1)
		f := mustFn(t, m)
		i := mustKeep(t, m, f)
		mustBegin(t, m, f)
		m.Run(mostFuel)
		stands(t, m, stFull, m.Value(), okay)
		if n := m.Live(); n < size-12 {
			t.Error(size, n)
		}
		mustBegin(t, m, kept(t, m, i))
		stands(t, m, stReady, unit, okay)
		// The function, its env, and what the name is.
		live(t, m, wordsOfFn+wordsOfEnv+wordsOfFn+wordsOfEnv)
		m.Run(mostFuel)
		stands(t, m, stFull, m.Value(), okay)
		// Nor if it goes wrong.
		mustBegin(t, m, num(1))
		stands(t, m, stFail, unit, errCall)
		live(t, m, wordsOfFn+wordsOfFn+wordsOfEnv)
		mustBegin(t, m, kept(t, m, i), num(1))
		stands(t, m, stFail, unit, errMany)
		live(t, m, wordsOfFn+wordsOfFn+wordsOfEnv)
	}
}

func TestP13_2_WhatIsReached(t *testing.T) {
	two := "word 8; push; word 8; push; prim 12 2; "
	for _, x := range []struct {
		s string
		// At each request, which is answered by the value if there is a star, and by a number if not.
		want []string
	}{
		{ask + "; ret", []string{"2"}},
		{"word 8; push; word 8; push; " + ask + "; prim 12 2; " + ask + "; push; " + ask + "; prim 9 1; " + ask + "; ret", []string{"8", "5*", "8", "2"}},
		{"word 8; push; word 8; push; " + ask + "; prim 12 2; " + ask + "; push; " + ask + "; prim 9 1; " + ask + "; ret", []string{"8*", "5", "5", "2"}},
		{two + "push; " + ask + "; prim 13 1; " + ask + "; ret", []string{"8", "2"}},
		{two + "push; prim 19 1; " + ask + "; ret", []string{"5", "2"}},
		{two + "push; prim 19 1; " + ask + "; ret", []string{"5*", "5"}},
		{two + "push; fn 1; call 1; " + ask + "; ret | 1: " + ask + "; ret", []string{"17", "2"}},
		{two + "push; fn 1; call 1; " + ask + "; ret | 1: " + ask + "; ret", []string{"17*", "5"}},
		{two + "push; fn 1; tail 1 | 1: " + ask + "; word 8; set 0 0; " + ask + "; ret", []string{"11", "5"}},
		{two + "def 0; " + ask + "; def 0; " + ask + "; " + two + "setname 0; " + ask + "; word 8; setname 0; " + ask + "; ret", []string{"5", "2", "5", "2"}},
		{"fn 1; " + ask + "; fn 1; cc; " + ask + "; ret | 1: " + ask + "; ret", []string{"5", "16", "2"}},
		{"fn 1; cctail | 1: " + ask + "; word 8; set 0 0; " + ask + "; ret", []string{"10", "5"}},
		{"word 8; push; fn 1; tail 1 | 1: " + ask + "; fn 2; tail 0 | local 1 0; " + ask + "; ret", []string{"8", "7"}},
	} {
		for _, collects := range []bool{false, true} {
			m := begun(t, x.s)
			for i, s := range x.want {
				s, isValue := strings.CutSuffix(s, "*")
				want, _ := strconv.Atoi(s)
				m.Run(1)
				if m.State() != stHost || m.Live() != want {
					t.Errorf("%s: at request %d it stands at %d, and %d words are reached, not %d", x.s, i, m.State(), m.Live(), want)
				}
				if collects {
					m.Collect()
					used(t, m, want)
					live(t, m, want)
				}
				if isValue {
					m.Answer(m.Value())
				} else {
					m.Answer(num(1))
				}
			}
			m.Run(0)
			if m.State() != stDone {
				t.Error(x.s, m.State())
			}
		}
	}
}

func TestP13_2_EachRootAlone(t *testing.T) {
	const p = wordsOfPair
	m := machine(t, ask+"; push; "+ask+"; prim 19 1; def 0; "+ask+"; ret")
	i := mustKeep(t, m, mustCons(t, m, num(1), null))
	live(t, m, p)
	m.Drop(i)
	live(t, m, 0)
	mustBegin(t, m, mustFn(t, m))
	m.Run(0)
	live(t, m, 2)
	m.Answer(mustCons(t, m, num(1), null))
	live(t, m, 2+p)
	m.Collect()
	isObject(t, m.Arena(), m.Value(), kindPair, num(1), null)
	m.Run(0)
	live(t, m, 2+p+p)
	m.Collect()
	m.Answer(num(0))
	live(t, m, 2+p+p)
	m.Run(0)
	live(t, m, 2+p)
	m.Collect()
	live(t, m, 2+p)
	_, l := m.Asked()
	isObject(t, m.Arena(), l[0], kindPair, num(1), null)
	m.Answer(l[0])
	m.Run(0)
	live(t, m, 2+p)
	m.Collect()
	used(t, m, 2+p)
	m.Answer(num(1))
	m.Run(0)
	stands(t, m, stDone, num(1), okay)
	live(t, m, 2+p)
	// A request that failed holds nothing.
	m = begun(t, "word 8; push; word 8; push; prim 12 2; push; prim 19 1; ret")
	m.Run(0)
	live(t, m, 2+p)
	_, l = m.Asked()
	m.Fail(errOver)
	// The value is still what was pushed last.
	live(t, m, 2+p)
	m.Collect()
	isObject(t, m.Arena(), m.Value(), kindPair, num(1), num(1))
}

func TestP13_2_CollectMovesAllWords(t *testing.T) {
	// A Pair in the value, the env, the stack, a frame, a name, a request, and a slot.
	s := "fn 1; def 0; word 8; push; word 16; push; prim 12 2; push; word 24; push; word 32; push; prim 12 2; push; name 0; call 1; push; prim 12 2; ret | 1: word 40; push; word 48; push; prim 12 2; def 1; word 56; push; word 64; push; prim 12 2; push; word 72; push; word 80; push; prim 12 2; push; prim 19 1; push; name 1; push; local 0 0; push; prim 12 2; push; prim 12 2; push; prim 12 2; ret"
	want := "((1 . 2) (7 . 8) (11 . 12) (5 . 6) 3 . 4)"
	for size := 60; size < 200; size++ {
		m := mustNew(t, parse(s), size, 2)
		i := mustKeep(t, m, mustCons(t, m, num(13), num(14)))
		for range size / 10 {
			mustCons(t, m, null, null)
		}
		mustBegin(t, m, mustFn(t, m))
		m.Run(1)
		if m.State() == stFull {
			continue
		}
		m.Collect()
		used(t, m, m.Live())
		_, l := m.Asked()
		if len(l) != 1 {
			t.Fatal(size, m.State(), l)
		}
		isObject(t, m.Arena(), l[0], kindPair, num(9), num(10))
		isObject(t, m.Arena(), m.Value(), kindPair, num(9), num(10))
		m.Answer(mustCons(t, m, num(11), num(12)))
		m.Collect()
		m.Run(1)
		if m.State() == stFull {
			continue
		}
		m.Collect()
		if got := show.Word(m.Arena(), nil, m.Value()); m.State() != stDone || got != want {
			t.Error(size, m.State(), got)
		}
		isObject(t, m.Arena(), kept(t, m, i), kindPair, num(13), num(14))
	}
}

func TestP13_2_CollectLetsGo(t *testing.T) {
	m := machine(t, return5)
	a := mustCons(t, m, num(1), num(2))
	b := mustCons(t, m, num(3), a)
	c := mustCons(t, m, num(4), num(5))
	i := mustKeep(t, m, b)
	old := m.Arena()
	used(t, m, 9)
	live(t, m, 6)
	used(t, m, 9)
	m.Collect()
	used(t, m, 6)
	live(t, m, 6)
	if m.Arena().Size() != 1000 {
		t.Error(m.Arena().Size())
	}
	b = kept(t, m, i)
	a, _ = m.Arena().Get(b, 1)
	isObject(t, m.Arena(), b, kindPair, num(3), a)
	isObject(t, m.Arena(), a, kindPair, num(1), num(2))
	isObject(t, old, c, kindPair, num(4), num(5))
	m.Drop(i)
	m.Collect()
	m.Collect()
	used(t, m, 0)
	stands(t, m, stIdle, unit, okay)
}

func TestP13_2_WordsWithoutAnObject(t *testing.T) {
	for _, w := range plainWords() {
		want := w
		if w&7 == isAt && w>>3 < 1<<40 {
			want = unit
		}
		m := machine(t, ask+"; push; "+ask+"; prim 19 1; def 0; name 0; "+ask+"; ret")
		i := mustKeep(t, m, w)
		k := mustKeep(t, m, mustCons(t, m, w, w))
		f := mustFn(t, m)
		mustBegin(t, m, f)
		m.Run(0)
		m.Answer(w)
		stands(t, m, stReady, w, okay)
		m.Run(0)
		stands(t, m, stHost, w, okay)
		m.Answer(null)
		m.Run(0)
		asks(t, m, hoOut, w)
		m.Collect()
		asks(t, m, hoOut, want)
		if x := kept(t, m, i); x != want {
			t.Error(uint64(w), uint64(x))
		}
		isObject(t, m.Arena(), kept(t, m, k), kindPair, want, want)
		m.Answer(w)
		m.Run(0)
		stands(t, m, stHost, w, okay)
		m.Collect()
		stands(t, m, stHost, want, okay)
		m.Answer(null)
		m.Run(0)
		stands(t, m, stDone, null, okay)
	}
}

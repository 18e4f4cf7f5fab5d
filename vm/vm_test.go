package vm_test

import (
	"math"
	"slices"
	"strconv"
	"strings"
	"testing"

	"eddywheel/api"
	"eddywheel/show"
	"eddywheel/vm"
)

func TestP13_1_CodeThatIsNotValid(t *testing.T) {
	for _, s := range []string{
		"push", "word 8", "1: word 8; ret", "-1: word 8; ret", "101: word 8; ret", "word 8; ret | 101: word 8; ret", "word 8; ret | -1: word 8; ret",
		"word 8; ret; ret", "jump 0", "word 8; jump 1", "word 8; not 0; ret", "word 1; ret", "word 34; ret", "local -1 0; ret", "name -1; ret",
		"fn 0; ret", "fn 1; ret", "fn 2; ret | word 8; ret", "prim 18 1; ret", "prim 0 0; ret", "prim 31 0; ret", "prim 30 1; ret",
		"word 8; push; ret", "call 1; ret", "word 8; push; tail 0", "word 8; push; cctail", "word 8; ret | word 8; push; ret", "word 8; ret | push",
	} {
		if m, e := vm.New(parse(s), 100, 1); m != nil || e != errArg {
			t.Error(s, m, e)
		}
	}
	for _, l := range [][]api.Block{nil, {}, {{}}, {{L: []api.Ins{{}}}}, {{L: []api.Ins{{Op: 17}}}}, {{L: []api.Ins{{Op: 255}}}}, append(parse(return5), api.Block{})} {
		for _, many := range []int{-1, 0, 7, mostNames + 1} {
			for _, size := range []int{0, 9, mostWords + 1} {
				if m, e := vm.New(l, size, many); m != nil || e != errArg {
					t.Error(l, m, e)
				}
			}
		}
	}
}

func TestP13_1_SizesAndNumbersOfNames(t *testing.T) {
	l := parse(return5)
	for _, x := range []struct {
		size, many int
		e          api.Errno
	}{
		{1, 0, okay}, {2, 1, okay}, {100, 20, okay}, {mostWords - 1, mostNames - 1, okay}, {mostWords, mostNames, okay}, {1, mostNames, okay}, {mostWords, 0, okay},
		{0, 0, errArg}, {-1, 0, errArg}, {mostWords + 1, 0, errArg}, {math.MinInt, 0, errArg}, {math.MaxInt, 0, errArg}, {1 << 32, 0, errArg}, {1<<32 + 5, 0, errArg}, {-mostWords, 0, errArg},
		{1, -1, errArg}, {1, mostNames + 1, errArg}, {1, math.MinInt, errArg}, {1, math.MaxInt, errArg}, {1, 1 << 32, errArg}, {1, -mostNames, errArg}, {0, -1, errArg},
	} {
		m, e := vm.New(l, x.size, x.many)
		if e != x.e || (m == nil) != (e != okay) {
			t.Error(x.size, x.many, m, e)
		}
		if m != nil && m.Arena().Size() != x.size {
			t.Error(x.size, m.Arena().Size())
		}
	}
}

func TestP13_1_ANewMachine(t *testing.T) {
	m := mustNew(t, parse(return5), 9, 3)
	stands(t, m, stIdle, unit, okay)
	asks(t, m, 0)
	live(t, m, 0)
	used(t, m, 0)
	if m.Arena() == nil || m.Arena().Size() != 9 || m.Arena() != m.Arena() {
		t.Error(m.Arena())
	}
	for _, i := range []int{-1, 0, 1, 2} {
		if w, e := m.Kept(i); w != 0 || e != errNone {
			t.Error(i, w, e)
		}
	}
	runs(t, m, 7, 7)
	m.Collect()
	stands(t, m, stIdle, unit, okay)
	if w, e := m.Save(); w != 0 || e != errState {
		t.Error(w, e)
	}
	if m.Answer(num(1)) != errState || m.Fail(errPart) != errState || m.Fail(okay) != errState {
		t.Error("nothing is asked for")
	}
	stands(t, m, stIdle, unit, okay)
}

func TestP13_1_NoNameHasAWord(t *testing.T) {
	for _, many := range []int{0, 1, 5, mostNames} {
		for _, i := range []int{0, 1, 4, 5, many - 1, many, many + 1, mostNames, math.MaxInt} {
			if i < 0 {
				continue
			}
			for _, op := range []string{"name ", "setname "} {
				m := mustNew(t, parse("word 40; "+op+strconv.Itoa(i)+"; ret"), 9, many)
				mustBegin(t, m, mustFn(t, m))
				runs(t, m, 0, 0)
				stands(t, m, stFail, num(5), errUnset)
			}
		}
	}
}

func TestP13_1_TheBlocksAreNotKept(t *testing.T) {
	l := parse("word 40; fn 1; call 0; ret | word 48; ret")
	whole := append(slices.Clone(l), api.Block{Many: 7})
	whole[1].L = append(slices.Clone(l[1].L), api.Ins{Op: 99})[:2]
	m, e := vm.New(whole[:2], 100, 0)
	if e != okay || whole[2].Many != 7 || whole[1].L[:3][2].Op != 99 || len(whole[0].L) != 4 || whole[0].L[0].W != num(5) {
		t.Fatal(whole, e)
	}
	whole[0].L[0], whole[0].L[1], whole[0].L[3], whole[1].L[0], whole[1].L[1] = api.Ins{}, api.Ins{}, api.Ins{}, api.Ins{}, api.Ins{}
	whole[0], whole[1] = api.Block{}, api.Block{}
	mustBegin(t, m, mustFn(t, m))
	runs(t, m, 9, 8)
	stands(t, m, stDone, num(6), okay)
}

func TestP13_1_MachinesAreApart(t *testing.T) {
	l := parse("name 0; push; " + ask + "; def 0; prim 9 1; ret")
	a, b := mustNew(t, l, 100, 1), mustNew(t, l, 100, 1)
	mustKeep(t, a, num(3))
	mustBegin(t, a, mustFn(t, a))
	a.Run(0)
	stands(t, a, stFail, unit, errUnset)
	stands(t, b, stIdle, unit, okay)
	used(t, b, 0)
	if _, e := b.Kept(0); e != errNone || a.Arena() == b.Arena() {
		t.Error(e)
	}
	l = parse("word 40; def 0; " + ask + "; name 0; ret")
	a, b = mustNew(t, l, 100, 1), mustNew(t, l, 100, 1)
	for _, m := range []*vm.Machine{a, b} {
		mustBegin(t, m, mustFn(t, m))
	}
	a.Run(0)
	asks(t, a, hoTime)
	asks(t, b, 0)
	b.Run(0)
	a.Answer(num(1))
	asks(t, b, hoTime)
}

func TestP13_6_AnswerAndFailInEachState(t *testing.T) {
	refuses := func(m *vm.Machine) {
		t.Helper()
		state, value, fault, reached := m.State(), m.Value(), m.Fault(), m.Live()
		for _, e := range []api.Errno{okay, errPart} {
			if m.Answer(num(3)) != errState || m.Fail(e) != errState {
				t.Error(state)
			}
		}
		stands(t, m, state, value, fault)
		live(t, m, reached)
		asks(t, m, 0)
	}
	m := machine(t, ask+"; ret")
	refuses(m)
	mustBegin(t, m, mustFn(t, m))
	refuses(m)
	m.Run(0)
	m.Answer(num(6))
	refuses(m)
	m.Run(0)
	stands(t, m, stDone, num(6), okay)
	refuses(m)
	mustBegin(t, m, num(1))
	refuses(m)
	m = mustNew(t, parse("word 8; push; word 8; push; prim 12 2; ret"), 5, 0)
	mustBegin(t, m, mustFn(t, m))
	m.Run(0)
	stands(t, m, stFull, num(1), okay)
	refuses(m)
}

func TestP13_6_AnyWordIsAnAnswer(t *testing.T) {
	for _, w := range plainWords() {
		m := begun(t, ask+"; ret")
		m.Run(0)
		if m.Answer(w) != okay {
			t.Error(uint64(w))
		}
		m.Run(0)
		stands(t, m, stDone, w, okay)
	}
}

func TestP13_6_SlotsInTheirOrder(t *testing.T) {
	m := machine(t, return5)
	for i, w := range plainWords() {
		if k, e := m.Keep(w); k != i || e != okay {
			t.Error(i, k, e)
		}
	}
	for i, w := range plainWords() {
		if x, e := m.Kept(i); x != w || e != okay {
			t.Error(i, x, e)
		}
	}
	for _, i := range []int{5, 2, 9, 0} {
		if m.Drop(i) != okay || m.Drop(i) != errNone {
			t.Error(i)
		}
		if w, e := m.Kept(i); w != 0 || e != errNone {
			t.Error(i, w, e)
		}
	}
	for _, want := range []int{0, 2, 5, 9, len(plainWords()), len(plainWords()) + 1} {
		if k, e := m.Keep(num(want)); k != want || e != okay {
			t.Error(want, k, e)
		}
		if w, e := m.Kept(want); w != num(want) || e != okay {
			t.Error(want, w, e)
		}
	}
	// A slot that is free has no word again.
	m.Drop(3)
	m.Keep(num(0))
	if w, e := m.Kept(3); w != num(0) || e != okay {
		t.Error(w, e)
	}
}

func TestP13_6_SlotsThatAreNone(t *testing.T) {
	m := machine(t, return5)
	mustKeep(t, m, num(1))
	for _, i := range []int{-1, -2, math.MinInt, 1, 2, 100, mostSlots - 1, mostSlots, mostSlots + 1, 1 << 32, math.MaxInt} {
		if w, e := m.Kept(i); w != 0 || e != errNone {
			t.Error(i, w, e)
		}
		if e := m.Drop(i); e != errNone {
			t.Error(i, e)
		}
	}
	if w, e := m.Kept(0); w != num(1) || e != okay {
		t.Error(w, e)
	}
}

func TestP13_6_AllSlots(t *testing.T) {
	m := machine(t, return5)
	for i := range mostSlots {
		if k, e := m.Keep(num(i)); k != i || e != okay {
			t.Fatal(i, k, e)
		}
	}
	for range 3 {
		if k, e := m.Keep(num(1)); k != 0 || e != errLong {
			t.Error(k, e)
		}
	}
	for _, i := range []int{mostSlots - 1, 0, 7000} {
		m.Drop(i)
		if k, e := m.Keep(num(-i)); k != i || e != okay {
			t.Error(i, k, e)
		}
		if k, e := m.Keep(num(1)); k != 0 || e != errLong {
			t.Error(k, e)
		}
		if w := kept(t, m, i); w != num(-i) {
			t.Error(i, w)
		}
	}
	m.Collect()
	if w := kept(t, m, mostSlots-2); w != num(mostSlots-2) {
		t.Error(w)
	}
	live(t, m, 0)
}

func TestP13_6_TheSameWordInSlots(t *testing.T) {
	m := machine(t, return5)
	w := mustCons(t, m, num(1), num(2))
	a, b := mustKeep(t, m, w), mustKeep(t, m, w)
	live(t, m, 3)
	mustCons(t, m, num(1), num(2))
	m.Collect()
	if x := kept(t, m, a); x != kept(t, m, b) {
		t.Error(x)
	}
	m.Drop(a)
	live(t, m, 3)
	isObject(t, m.Arena(), kept(t, m, b), kindPair, num(1), num(2))
	m.Drop(b)
	live(t, m, 0)
}

func TestP13_6_FnAndCons(t *testing.T) {
	m := machine(t, return5)
	f := mustFn(t, m)
	isObject(t, m.Arena(), f, kindFn, num(0), null)
	for _, a := range plainWords() {
		w := mustCons(t, m, a, num(7))
		isObject(t, m.Arena(), w, kindPair, a, num(7))
		w = mustCons(t, m, num(7), a)
		isObject(t, m.Arena(), w, kindPair, num(7), a)
	}
	x, y := mustFn(t, m), mustFn(t, m)
	if x == y {
		t.Error(x)
	}
	// The words of Cons are held while garbage is collected.
	for size := 9; size < 30; size++ {
		m := mustNew(t, parse(return5), size, 0)
		for m.Arena().Size()-m.Arena().Used() >= 3+2+2 {
			mustCons(t, m, null, null)
		}
		p := made(t, m, kindCont, num(1))
		q := made(t, m, kindCont, num(2))
		w, e := m.Cons(p, q)
		if e != okay {
			t.Fatal(size, e)
		}
		l := fieldsOf(m.Arena(), w)
		isObject(t, m.Arena(), w, kindPair, l[0], l[1])
		isObject(t, m.Arena(), l[0], kindCont, num(1))
		isObject(t, m.Arena(), l[1], kindCont, num(2))
		for m.Arena().Size()-m.Arena().Used() >= 3 {
			mustCons(t, m, null, null)
		}
		if w, e = m.Cons(w, w); e != okay && size >= 10 || e == okay && size < 10 {
			t.Error(size, w, e)
		}
	}
}

func TestP13_6_ANilMachine(t *testing.T) {
	var m *vm.Machine
	for range 2 {
		if m.State() != stIdle || m.Value() != 0 || m.Fault() != errNone || m.Live() != 0 || m.Arena() != nil {
			t.Error(m.State(), m.Value(), m.Fault(), m.Live(), m.Arena())
		}
		if op, l := m.Asked(); op != 0 || l != nil {
			t.Error(op, l)
		}
		if m.Begin(num(1)) != errNone || m.Begin(num(1), make([]api.Word, 200)...) != errNone || m.Answer(num(1)) != errNone || m.Fail(okay) != errNone || m.Fail(errPart) != errNone || m.Resume(num(1)) != errNone {
			t.Error("errors")
		}
		if w, e := m.Save(); w != 0 || e != errNone {
			t.Error(w, e)
		}
		for _, i := range []int{-1, 0, 1} {
			if w, e := m.Kept(i); w != 0 || e != errNone {
				t.Error(w, e)
			}
			if m.Drop(i) != errNone {
				t.Error(i)
			}
		}
		if i, e := m.Keep(num(1)); i != 0 || e != errNone {
			t.Error(i, e)
		}
		if w, e := m.Fn(); w != 0 || e != errNone {
			t.Error(w, e)
		}
		if w, e := m.Cons(num(1), num(2)); w != 0 || e != errNone {
			t.Error(w, e)
		}
		m.Collect()
		runs(t, m, 5, 5)
		runs(t, m, -5, 0)
	}
}

func TestP13_6_AMachineThatNewDidNotMake(t *testing.T) {
	m := &vm.Machine{}
	if m.Arena() != nil || m.Live() != 0 || m.State() != stIdle || m.Fault() != okay {
		t.Error(m.Arena(), m.Live())
	}
	if w, e := m.Fn(); w != 0 || e != errRoom {
		t.Error(w, e)
	}
	if w, e := m.Cons(num(1), num(2)); w != 0 || e != errRoom {
		t.Error(w, e)
	}
	if m.Resume(at(0)) != errArg || m.Answer(num(1)) != errState {
		t.Error("resume")
	}
	i := mustKeep(t, m, num(3))
	m.Collect()
	if kept(t, m, i) != num(3) || m.Drop(i) != okay {
		t.Error(i)
	}
	mustBegin(t, m, at(0))
	stands(t, m, stFail, unit, errCall)
	runs(t, m, 3, 3)
}

func TestTheExample(t *testing.T) {
	m := machine(t, return5)
	if e := m.Begin(mustFn(t, m)); e != okay {
		t.Error(e)
	}
	runs(t, m, 0, 0)
	stands(t, m, stDone, num(5), okay)
}

// Of the document's examples of the whole, those that need no loop.
func TestExamplesOfTheWhole(t *testing.T) {
	for _, x := range []struct {
		s     string
		size  int
		state int
		e     api.Errno
		outs  string
	}{
		{"(out (+ 1 2))", 1000, stDone, okay, "3"},
		{"(define k 0)\n(out (+ 1 (call/cc (lambda (c) (set! k c) 1))))\n(if (eq? k 0) 1 (let ((j k)) (set! k 0) (j 5)))", 1000, stDone, okay, "2 6"},
		{"(out 1)\n(car 5)", 1000, stFail, errPart, "1"},
		{"(define (f n) (cons n (f n))) (f 1)", 100, stFull, okay, ""},
	} {
		m, n := textMachine(t, x.s, x.size)
		var outs []string
		for m.Run(1000); m.State() == stHost; m.Run(1000) {
			op, l := m.Asked()
			if op != hoOut {
				t.Error(op)
			}
			outs = append(outs, show.Word(m.Arena(), n, l[0]))
			m.Answer(unit)
		}
		if got := strings.Join(outs, " "); m.State() != x.state || m.Fault() != x.e || got != x.outs {
			t.Error(x.s, m.State(), m.Fault(), got)
		}
	}
}

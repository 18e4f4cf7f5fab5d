package vm_test

import (
	"math"
	"strconv"
	"testing"

	"eddywheel/api"
	"eddywheel/show"
)

func TestP13_5_Fuel(t *testing.T) {
	m := machine(t, return5)
	loop := begun(t, "fn 1; def 0; name 0; tail 0 | name 0; tail 0")
	for _, x := range [][2]int{{math.MinInt, 0}, {-mostFuel, 0}, {-2, 0}, {-1, 0}, {0, 0}, {1, 1}, {2, 2}, {77, 77}, {mostFuel - 1, mostFuel - 1}, {mostFuel, mostFuel}, {mostFuel + 1, mostFuel}, {1 << 32, mostFuel}, {math.MaxInt, mostFuel}} {
		runs(t, m, x[0], x[1])
		stands(t, m, stIdle, unit, okay)
		runs(t, nil, x[0], x[1])
		done := begun(t, return5)
		runs(t, done, x[0], x[1])
		stands(t, done, stDone, num(5), okay)
		runs(t, done, x[0], x[1])
		asked := begun(t, ask+"; ret")
		runs(t, asked, x[0], x[1])
		runs(t, asked, x[0], x[1])
		failed := begun(t, "name 0; ret")
		runs(t, failed, x[0], x[1])
		runs(t, failed, x[0], x[1])
		if x[1] < 100 {
			runs(t, loop, x[0], 0)
			if loop.State() != stReady {
				t.Error(loop.State())
			}
		}
	}
}

func TestP13_5_EachCallIsCounted(t *testing.T) {
	// So many calls, of each kind.
	for _, s := range []string{
		"(define (f n) (if (< n 1) 7 (f (- n 1)))) (f 8)",
		"(define (f n) (if (< n 1) 0 (+ 1 (f (- n 1))))) (- (f 8) 1)",
		"(define (f n) (if (< n 1) 7 (call/cc (lambda (k) (f (- n 1)))))) (f 4)",
		"(define (f n) (if (< n 1) 7 (+ 0 (call/cc (lambda (k) (f (- n 1))))))) (f 4)",
		"(define (f n) (if (< n 1) 7 (+ 0 (call/cc (lambda (k) (k (f (- n 1)))))))) (+ 0 (f 2)) (+ 0 (f 0)) (+ 0 (f 0))",
	} {
		for fuel := range 12 {
			m, _ := textMachine(t, s, 300)
			left := m.Run(fuel)
			if fuel < 9 {
				if left != 0 || m.State() != stReady {
					t.Error(s, fuel, left, m.State())
				}
				left = m.Run(9)
				if want := fuel; left != want {
					t.Error(s, fuel, left)
				}
			} else if left != fuel-9 {
				t.Error(s, fuel, left)
			}
			stands(t, m, stDone, num(7), okay)
		}
	}
}

func TestP13_5_TheGreatestFuel(t *testing.T) {
	for _, fuel := range []int{mostFuel - 1, mostFuel, mostFuel + 1, math.MaxInt} {
		m, _ := textMachine(t, "(define (f n) (if (< n 1) 7 (f (- n 1)))) (f "+strconv.Itoa(mostFuel-1)+")", 4000)
		runs(t, m, fuel, 0)
		if fuel < mostFuel {
			if m.State() != stReady {
				t.Error(m.State())
			}
			runs(t, m, 5, 4)
		}
		stands(t, m, stDone, num(7), okay)
	}
	m, _ := textMachine(t, "(define (f n) (if (< n 1) 7 (f (- n 1)))) (f "+strconv.Itoa(mostFuel)+")", 4000)
	runs(t, m, math.MaxInt, 0)
	if m.State() != stReady {
		t.Error(m.State())
	}
	runs(t, m, 1, 0)
	stands(t, m, stDone, num(7), okay)
}

func TestP13_5_CallsThatGoWrongAreCounted(t *testing.T) {
	for _, s := range []string{"(1)", "((lambda () 1) 2)", "(call/cc 1)", "(call/cc (lambda () 1))", "(+ 1 (2))", "(+ 1 (call/cc 2))"} {
		m, _ := textMachine(t, s, 300)
		runs(t, m, 0, 0)
		if m.State() != stReady {
			t.Error(s, m.State())
		}
		runs(t, m, 5, 4)
		if m.State() != stFail {
			t.Error(s, m.State())
		}
	}
	// Nor does it matter that there is no room.
	m, _ := textMachine(t, "(define (f) (+ 1 (f))) (f)", 50)
	left := m.Run(100)
	if m.State() != stFull || left < 90 || left > 95 {
		t.Error(m.State(), left)
	}
}

func TestP13_5_Constants(t *testing.T) {
	for _, w := range []api.Word{num(0), num(5), num(-5), num(1<<40 - 1), num(1 - 1<<40), null, no, yes, unit, symbol(0), symbol(77), handle(0), handle(1<<40 - 1)} {
		m := mustNew(t, []api.Block{{L: []api.Ins{{Op: 1, W: w}, {Op: 16}}}}, 5, 0)
		mustBegin(t, m, mustFn(t, m))
		m.Run(0)
		stands(t, m, stDone, w, okay)
	}
}

func TestP13_5_Locals(t *testing.T) {
	// Two envs within each other, of two words and of one, and that of the first block.
	s := "word 40; push; word 48; push; fn 1; tail 2 | 2: word 56; push; fn 2; tail 1 | 1: "
	for _, x := range []struct {
		a, b int
		want api.Word
		e    api.Errno
	}{
		{0, 0, num(7), okay}, {1, 0, num(5), okay}, {1, 1, num(6), okay},
		{0, 1, 0, errPart}, {0, 2, 0, errPart}, {1, 2, 0, errPart}, {1, 300, 0, errPart}, {2, 0, 0, errPart}, {2, 1, 0, errPart}, {3, 0, 0, errPart}, {4, 0, 0, errPart}, {100, 0, 0, errPart},
		{0, math.MaxInt, 0, errPart}, {0, math.MaxInt - 1, 0, errPart}, {1, 1 << 32, 0, errPart}, {0, 255, 0, errPart}, {0, 256, 0, errPart}, {1 << 32, 0, 0, errPart}, {math.MaxInt, 0, 0, errPart}, {math.MaxInt, math.MaxInt, 0, errPart},
	} {
		place := strconv.Itoa(x.a) + " " + strconv.Itoa(x.b)
		if x.e != okay {
			ends(t, s+"word 72; local "+place+"; ret", stFail, num(9), x.e)
			ends(t, s+"word 72; set "+place+"; ret", stFail, num(9), x.e)
			continue
		}
		ends(t, s+"word 72; local "+place+"; ret", stDone, x.want, okay)
		ends(t, s+"word 72; set "+place+"; ret", stDone, unit, okay)
		ends(t, s+"word 72; set "+place+"; local "+place+"; ret", stDone, num(9), okay)
		// The others stay.
		for _, y := range []struct {
			place string
			want  api.Word
		}{{"0 0", num(7)}, {"1 0", num(5)}, {"1 1", num(6)}} {
			if y.place != place {
				ends(t, s+"word 72; set "+place+"; local "+y.place+"; ret", stDone, y.want, okay)
			}
		}
	}
	// Without a level, and with an env that is none.
	ends(t, "local 0 0; ret", stFail, unit, errPart)
	ends(t, "local 1 0; ret", stFail, unit, errPart)
	ends(t, "set 0 0; ret", stFail, unit, errPart)
	for _, w := range append(plainWords(), at(0), at(3)) {
		for _, s := range []string{"local 0 0", "local 1 0", "set 0 0", "set 2 0"} {
			m := machine(t, s+"; ret")
			p := mustCons(t, m, num(6), null)
			made(t, m, kindFrame, num(6), num(6))
			e := m.Resume(made(t, m, kindFrame, num(0), num(0), w, p, null))
			if e != okay {
				t.Fatal(e)
			}
			m.Run(0)
			stands(t, m, stFail, num(6), errPart)
			isObject(t, m.Arena(), at(0), kindPair, num(6), null)
			isObject(t, m.Arena(), at(3), kindFrame, num(6), num(6))
		}
	}
	// Envs on the way that have no field, or lead to what is no Env.
	m := machine(t, "local 1 0; ret")
	p := mustCons(t, m, num(6), null)
	empty := made(t, m, kindEnv)
	if m.Resume(made(t, m, kindFrame, num(0), num(0), empty, p, null)) != okay || m.Run(0) != 0 {
		t.Error("resume")
	}
	stands(t, m, stFail, num(6), errPart)
	if m.Resume(made(t, m, kindFrame, num(0), num(0), made(t, m, kindEnv, p), p, null)) != okay || m.Run(0) != 0 {
		t.Error("resume")
	}
	stands(t, m, stFail, num(6), errPart)
}

func TestP13_5_SetReachesEachFunctionOfAnEnv(t *testing.T) {
	m, n := textMachine(t, "(define (c) (let ((n 0)) (cons (lambda () (set! n (+ n 1)) n) (lambda () n)))) (define a (c)) (define b (c)) ((car a)) ((car a)) ((car b)) (cons ((cdr a)) ((cdr b)))", 400)
	m.Run(99)
	if got := show.Word(m.Arena(), n, m.Value()); m.State() != stDone || got != "(2 . 1)" {
		t.Error(m.State(), got)
	}
}

func TestP13_5_Names(t *testing.T) {
	for _, x := range []struct {
		s     string
		state int
		value api.Word
		e     api.Errno
	}{
		{"word 40; def 0; ret", stDone, unit, okay},
		{"word 40; def 0; name 0; ret", stDone, num(5), okay},
		{"word 40; def 19; name 19; ret", stDone, num(5), okay},
		{"word 40; def 0; word 48; def 0; name 0; ret", stDone, num(6), okay},
		{"word 40; def 0; word 48; setname 0; ret", stDone, unit, okay},
		{"word 40; def 0; word 48; setname 0; name 0; ret", stDone, num(6), okay},
		{"word 40; def 3; word 48; def 4; name 3; ret", stDone, num(5), okay},
		{"word 0; def 3; name 3; ret", stDone, num(0), okay},
		{"word 0; def 3; word 48; setname 3; name 3; ret", stDone, num(6), okay},
		{"word 10; def 3; name 3; ret", stDone, no, okay},
		{"word 40; def 3; name 2; ret", stFail, unit, errUnset},
		{"word 40; def 3; name 4; ret", stFail, unit, errUnset},
		{"word 40; setname 0; ret", stFail, num(5), errUnset},
		{"word 40; setname 20; ret", stFail, num(5), errUnset},
		{"word 40; def 20; ret", stFail, num(5), errUnset},
		{"word 40; def 21; ret", stFail, num(5), errUnset},
		{"word 40; name 20; ret", stFail, num(5), errUnset},
		{"word 40; name 4095; ret", stFail, num(5), errUnset},
		{"word 40; name 9223372036854775807; ret", stFail, num(5), errUnset},
		{"word 40; def 9223372036854775807; ret", stFail, num(5), errUnset},
		{"word 40; setname 9223372036854775807; ret", stFail, num(5), errUnset},
	} {
		ends(t, x.s, x.state, x.value, x.e)
	}
	// A name that is not set by an error has no word later either.
	m := begun(t, "word 40; setname 0; ret")
	m.Run(0)
	mustBegin(t, m, mustFn(t, m))
	m.Run(0)
	stands(t, m, stFail, num(5), errUnset)
	// Names keep their words from one Begin to the next, and the greatest one is as good as any.
	for _, many := range []int{1, 2, mostNames} {
		i := strconv.Itoa(many - 1)
		m := mustNew(t, parse("name "+i+"; ret | 1: local 0 0; def "+i+"; ret"), 100, many)
		for k := range 4 {
			mustBegin(t, m, made(t, m, kindFn, num(1), null), num(k))
			m.Run(0)
			stands(t, m, stDone, unit, okay)
			m.Collect()
			mustBegin(t, m, mustFn(t, m))
			m.Run(0)
			stands(t, m, stDone, num(k), okay)
		}
	}
	m = mustNew(t, parse("word 40; def 0; ret"), 9, 0)
	mustBegin(t, m, mustFn(t, m))
	m.Run(0)
	stands(t, m, stFail, num(5), errUnset)
}

func TestP13_5_JumpsAndChoices(t *testing.T) {
	for _, w := range append(plainWords(), no) {
		m := begun(t, ask+"; not 4; word 40; ret; word 48; ret")
		m.Run(0)
		m.Answer(w)
		m.Run(0)
		want := num(5)
		if w == no {
			want = num(6)
		}
		stands(t, m, stDone, want, okay)
	}
	ends(t, "word 10; not 2; ret", stDone, no, okay)
	ends(t, "word 18; not 2; ret", stDone, yes, okay)
	ends(t, "jump 1; ret", stDone, unit, okay)
	ends(t, "word 40; not 4; word 48; jump 5; word 56; ret", stDone, num(6), okay)
	ends(t, "word 10; not 4; word 48; jump 5; word 56; ret", stDone, num(7), okay)
	ends(t, "word 10; not 4; word 48; ret; jump 5; not 6; ret", stDone, no, okay)
}

func TestP13_5_PushAndFn(t *testing.T) {
	m := begun(t, "word 40; push; word 48; push; "+ask+"; prim 12 2; ret")
	m.Run(0)
	stands(t, m, stHost, num(6), okay)
	m.Answer(num(9))
	w := mustSave(t, m)
	a := m.Arena()
	state := fieldsOf(a, w)[3]
	stack := fieldsOf(a, state)[1]
	isObject(t, a, state, kindPair, num(9), stack)
	rest := fieldsOf(a, stack)[1]
	isObject(t, a, stack, kindPair, num(6), rest)
	isObject(t, a, rest, kindPair, num(5), null)
	for i := 1; i < 4; i++ {
		m := begun(t, "word 40; fn "+strconv.Itoa(i)+"; ret | 1: ret | ret | 2: ret")
		m.Run(0)
		a := m.Arena()
		f := m.Value()
		env := fieldsOf(a, f)[1]
		isObject(t, a, f, kindFn, num(i), env)
		isObject(t, a, env, kindEnv, null)
		if m.State() != stDone {
			t.Error(m.State())
		}
	}
}

func TestP13_5_PurePrimitives(t *testing.T) {
	big := num(1<<40 - 1)
	for _, x := range []struct {
		op   int
		l    []api.Word
		want api.Word
		e    api.Errno
	}{
		{1, []api.Word{num(5), num(7)}, num(12), okay}, {2, []api.Word{num(5), num(7)}, num(-2), okay}, {3, []api.Word{num(5), num(-7)}, num(-35), okay}, {4, []api.Word{num(-7), num(2)}, num(-3), okay}, {5, []api.Word{num(-7), num(2)}, num(-1), okay},
		{6, []api.Word{num(1), num(2)}, yes, okay}, {6, []api.Word{num(2), num(1)}, no, okay}, {7, []api.Word{num(2), num(2)}, yes, okay}, {7, []api.Word{num(1), num(2)}, no, okay}, {8, []api.Word{null, null}, yes, okay}, {8, []api.Word{null, no}, no, okay},
		{9, []api.Word{no}, yes, okay}, {9, []api.Word{num(0)}, no, okay}, {10, []api.Word{null}, yes, okay}, {10, []api.Word{no}, no, okay}, {11, []api.Word{num(0)}, no, okay}, {15, []api.Word{num(0)}, yes, okay}, {15, []api.Word{null}, no, okay}, {16, []api.Word{symbol(4)}, yes, okay}, {16, []api.Word{num(4)}, no, okay}, {17, []api.Word{num(4)}, no, okay},
		{1, []api.Word{big, num(1)}, 0, errOver}, {2, []api.Word{num(1 - 1<<40), num(1)}, 0, errOver}, {3, []api.Word{big, big}, 0, errOver}, {4, []api.Word{num(1), num(0)}, 0, errZero}, {5, []api.Word{num(1), num(0)}, 0, errZero},
		{1, []api.Word{null, num(1)}, 0, errKind}, {2, []api.Word{num(1), no}, 0, errKind}, {3, []api.Word{symbol(1), num(1)}, 0, errKind}, {4, []api.Word{handle(1), num(0)}, 0, errKind}, {5, []api.Word{num(1), unit}, 0, errKind}, {6, []api.Word{num(1), unit}, 0, errKind}, {7, []api.Word{unit, unit}, 0, errKind},
		{13, []api.Word{num(1)}, 0, errPart}, {14, []api.Word{null}, 0, errPart},
	} {
		m := mustNew(t, parse(pushes(x.l)+"word 72; prim "+strconv.Itoa(x.op)+" "+strconv.Itoa(len(x.l))+"; ret"), 100, 0)
		mustBegin(t, m, mustFn(t, m))
		runs(t, m, 5, 5)
		reached := wordsOfEnv
		if x.e != okay {
			stands(t, m, stFail, num(9), x.e)
			// The stack is as it was.
			reached += wordsOfPair * len(x.l)
		} else {
			stands(t, m, stDone, x.want, okay)
		}
		live(t, m, reached)
		used(t, m, wordsOfFn+wordsOfEnv+wordsOfPair*len(x.l))
	}
	// Of objects.
	two := "word 8; push; word 16; push; prim 12 2; "
	ends(t, two+"push; prim 13 1; ret", stDone, num(1), okay)
	ends(t, two+"push; prim 14 1; ret", stDone, num(2), okay)
	ends(t, two+"push; prim 11 1; ret", stDone, yes, okay)
	ends(t, two+"push; prim 17 1; ret", stDone, no, okay)
	ends(t, two+"push; prim 15 1; ret", stDone, no, okay)
	ends(t, two+"def 0; name 0; push; name 0; push; prim 8 2; ret", stDone, yes, okay)
	ends(t, two+"push; "+two+"push; prim 8 2; ret", stDone, no, okay)
	ends(t, "fn 1; push; prim 17 1; ret | ret", stDone, yes, okay)
	ends(t, "fn 1; cc; push; prim 17 1; ret | 1: local 0 0; ret", stDone, yes, okay)
	ends(t, "fn 1; push; prim 13 1; ret | ret", stFail, at(5), errPart)
	m := begun(t, two+"ret")
	m.Run(0)
	isObject(t, m.Arena(), m.Value(), kindPair, num(1), num(2))
	// What lies below the words stays on the stack.
	ends(t, "word 8; push; word 16; push; word 24; push; prim 2 2; push; prim 12 2; push; prim 14 1; ret", stDone, num(-1), okay)
	ends(t, "word 8; push; word 16; push; prim 9 1; push; prim 12 2; push; prim 13 1; ret", stDone, num(1), okay)
}

// pushes is code that pushes words.
func pushes(l []api.Word) string {
	s := ""
	for _, w := range l {
		s += "word " + strconv.FormatUint(uint64(w), 10) + "; push; "
	}
	return s
}

// requests are the numbers of arguments of the primitives that are asked for, from hoOut on.
func requests() []int { return []int{1, 1, 1, 2, 1, 0, 2, 2, 1, 2, 1, 0} }

func TestP13_5_Requests(t *testing.T) {
	for i, many := range requests() {
		op := hoOut + i
		l := []api.Word{num(11), symbol(3)}[:many]
		s := "word 88; push; " + pushes(l) + "word 64; prim " + strconv.Itoa(op) + " " + strconv.Itoa(many) + "; push; prim 12 2; ret"
		m := begun(t, s)
		asks(t, m, 0)
		runs(t, m, 5, 5)
		stands(t, m, stHost, num(8), okay)
		asks(t, m, op, l...)
		asks(t, m, op, l...)
		live(t, m, wordsOfEnv+wordsOfPair)
		runs(t, m, 5, 5)
		stands(t, m, stHost, num(8), okay)
		m.Collect()
		asks(t, m, op, l...)
		if e := m.Answer(symbol(9)); e != okay {
			t.Error(op, e)
		}
		asks(t, m, 0)
		stands(t, m, stReady, symbol(9), okay)
		runs(t, m, 5, 5)
		stands(t, m, stDone, m.Value(), okay)
		isObject(t, m.Arena(), m.Value(), kindPair, num(11), symbol(9))

		for _, e := range []api.Errno{errArg, errNone, errLong, errKind, errRoom, 140, 160, -1, 1 << 20, math.MinInt, math.MaxInt} {
			m = begun(t, s)
			m.Run(0)
			if m.Fail(okay) != errArg {
				t.Error(op)
			}
			stands(t, m, stHost, num(8), okay)
			asks(t, m, op, l...)
			if got := m.Fail(e); got != okay {
				t.Error(op, e, got)
			}
			stands(t, m, stFail, num(8), e)
			asks(t, m, 0)
			live(t, m, wordsOfEnv+wordsOfPair)
			if m.Fail(e) != errState || m.Fail(okay) != errState || m.Answer(num(1)) != errState {
				t.Error(op, e)
			}
			runs(t, m, 5, 5)
			stands(t, m, stFail, num(8), e)
			mustBegin(t, m, mustFn(t, m))
			stands(t, m, stReady, unit, okay)
		}
	}
}

func TestP13_5_TheWordsOfARequestAreTheCallers(t *testing.T) {
	m := begun(t, "word 8; push; word 16; push; prim 25 2; ret")
	m.Run(0)
	_, a := m.Asked()
	a[0], a[1] = num(7), num(8)
	asks(t, m, 25, num(1), num(2))
}

func TestP13_5_CallsAndTheirFrames(t *testing.T) {
	// What InCall and InCC make, as the Cont of the function called shows.
	m := begun(t, "word 40; push; word 48; push; fn 1; call 1; prim 9 1; ret | 1: fn 2; cctail | 1: local 0 0; push; prim 19 1; ret")
	runs(t, m, 9, 7)
	_, l := m.Asked()
	a := m.Arena()
	frame := fieldsOf(a, l[0])[0]
	isObject(t, a, l[0], kindCont, frame)
	f := fieldsOf(a, frame)
	isObject(t, a, frame, kindFrame, num(0), num(6), f[2], f[3], null)
	isObject(t, a, f[2], kindEnv, null)
	isObject(t, a, f[3], kindPair, num(5), null)

	m = begun(t, "word 40; push; fn 1; cc; prim 9 1; ret | 1: fn 2; cc; ret | 1: local 0 0; push; prim 19 1; ret")
	runs(t, m, 9, 7)
	_, l = m.Asked()
	a = m.Arena()
	inner := fieldsOf(a, l[0])[0]
	f = fieldsOf(a, inner)
	isObject(t, a, inner, kindFrame, num(1), num(2), f[2], null, f[4])
	env := fieldsOf(a, f[2])
	isObject(t, a, f[2], kindEnv, env[0], env[1])
	isObject(t, a, env[1], kindCont, f[4])
	outer := fieldsOf(a, f[4])
	isObject(t, a, f[4], kindFrame, num(0), num(4), env[0], outer[3], null)
	isObject(t, a, outer[3], kindPair, num(5), null)

	// InTail and InCCTail make no Frame.
	m = begun(t, "word 40; push; fn 1; tail 1 | 1: fn 2; cctail | 1: local 0 0; push; prim 19 1; ret")
	runs(t, m, 9, 7)
	_, l = m.Asked()
	isObject(t, m.Arena(), l[0], kindCont, null)
	used(t, m, 3+2+3+3+3+3+2+3+3)
	// The value is still what was called.
	if k := m.Arena().Kind(m.Value()); k != kindCont {
		t.Error(k)
	}
	m = begun(t, "fn 1; tail 0 | ret")
	m.Run(1)
	isObject(t, m.Arena(), m.Value(), kindFn, num(1), at(3))
}

func TestP13_5_CallsWithinEachOther(t *testing.T) {
	for _, x := range []struct {
		s    string
		left int // of 100
		want string
	}{
		{"(define (fib n) (if (< n 2) n (+ (fib (- n 1)) (fib (- n 2))))) (fib 7)", 100 - 41, "13"},
		{"(define (f a b c) (cons a (cons b (cons c '())))) (f 1 (f 2 3 4) (f 5 6 (f 7 8 9)))", 96, "(1 (2 3 4) (5 6 (7 8 9)))"},
		{"(define (even n) (if (= n 0) #t (odd (- n 1)))) (define (odd n) (if (= n 0) #f (even (- n 1)))) (cons (even 10) (odd 10))", 78, "(#t . #f)"},
		{"((lambda (x) ((lambda (y) ((lambda (z) (cons x (cons y z))) 3)) 2)) 1)", 97, "(1 2 . 3)"},
		{"(define (map f l) (if (null? l) l (cons (f (car l)) (map f (cdr l))))) (map (lambda (x) (* x x)) '(1 2 3 4))", 91, "(1 4 9 16)"},
		{"(+ 1 (call/cc (lambda (k) (+ 10 (k 5)))))", 98, "6"},
		{"(+ 1 (call/cc (lambda (k) (k (k (k 5))))))", 98, "6"},
		{"(+ 1 (call/cc (lambda (k) 5)))", 99, "6"},
		{"(call/cc (lambda (k) (+ 10 (k 5))))", 98, "5"},
		{"(cons 1 (call/cc (lambda (a) (cons 2 (call/cc (lambda (b) (cons 3 (a 4))))))))", 97, "(1 . 4)"},
		{"(cons 1 (call/cc (lambda (a) (cons 2 (call/cc (lambda (b) (cons 3 (b 4))))))))", 97, "(1 2 . 4)"},
		{"(define k 0) (define n 0) (define x (cons 'a (call/cc (lambda (c) (set! k c) 1)))) (if (< n 3) (begin (set! n (+ n 1)) (k n)) (cons n x))", 96, "(3 a . 3)"},
		{"(define (loop n) (if (= n 0) 'done (call/cc (lambda (k) (loop (- n 1)))))) (loop 20)", 100 - 41, "done"},
		{"(define r '()) (define (note x) (set! r (cons x r))) (note (call/cc (lambda (k) (note 1) (k 2) (note 3)))) r", 96, "(2 1)"},
		{"(call/cc (lambda (k) (call/cc k)))", 98, "#5"},
		{"(+ 0 ((call/cc (lambda (k) (lambda (x) 7))) 1))", 98, "7"},
		{"(define (f) (call/cc (lambda (k) k))) (define g (f)) (if (procedure? g) (g 5) (cons g g))", 97, "(5 . 5)"},
	} {
		m, n := textMachine(t, x.s, 2000)
		left := m.Run(100)
		if got := show.Word(m.Arena(), n, m.Value()); m.State() != stDone || got != x.want || left != x.left {
			t.Errorf("%s: %d, %d, %s, not %d, %s", x.s, m.State(), left, got, x.left, x.want)
		}
	}
}

func TestP13_5_ErrorsHaveNoOtherEffect(t *testing.T) {
	for _, x := range []struct {
		s    string
		e    api.Errno
		live int
	}{
		{"word 8; push; word 10; push; word 72; prim 1 2; ret", errKind, 2 + 6},
		{"word 8; push; word 8; push; word 72; call 2; ret", errCall, 2 + 6},
		{"word 8; push; word 8; push; word 72; tail 2", errCall, 2 + 6},
		{"word 8; push; word 72; cc; push; prim 1 2; ret", errCall, 2 + 3},
		{"word 72; cctail", errCall, 2},
		{"word 8; push; word 72; push; prim 13 1; push; prim 1 2; ret", errPart, 2 + 6},
		{"word 8; push; word 72; name 3; prim 9 1; ret", errUnset, 2 + 3},
		{"word 8; push; word 72; setname 3; prim 9 1; ret", errUnset, 2 + 3},
		{"word 8; push; word 72; def 30; prim 9 1; ret", errUnset, 2 + 3},
		{"word 8; push; word 72; local 0 0; prim 9 1; ret", errPart, 2 + 3},
		{"word 8; push; word 72; set 1 0; prim 9 1; ret", errPart, 2 + 3},
	} {
		m := begun(t, x.s)
		m.Run(5)
		stands(t, m, stFail, num(9), x.e)
		live(t, m, x.live)
		asks(t, m, 0)
		m.Collect()
		stands(t, m, stFail, num(9), x.e)
		used(t, m, x.live)
	}
	m := begun(t, "word 8; push; fn 1; call 1; ret | 2: ret")
	m.Run(5)
	stands(t, m, stFail, at(8), errMany)
	live(t, m, 2+3+3)
	used(t, m, 3+2+3+3)
}

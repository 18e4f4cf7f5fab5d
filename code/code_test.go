package code_test

import (
	"math"
	"math/rand"
	"reflect"
	"slices"
	"strings"
	"testing"

	"eddywheel/api"
	"eddywheel/code"
	"eddywheel/scope"
)

// Written out, so that a number that moves is seen.
const (
	inWord, inLocal, inName, inSet, inSetName, inDef = 1, 2, 3, 4, 5, 6
	inPush, inJump, inNot, inFn, inPrim, inCall      = 7, 8, 9, 10, 11, 12
	inTail, inCC, inCCTail, inRet                    = 13, 14, 15, 16
	add, isNot, cons, procedure, callCC, out, settle = 1, 9, 12, 17, 18, 19, 25
	after, promise, read, time, pastLast             = 22, 24, 29, 30, 31

	greatest = 1<<40 - 1
	mostMany = 100

	okay    api.Errno = 0
	errArg  api.Errno = 1
	errCode api.Errno = 110
)

// An instruction is made as the document tells it.

func word(w api.Word) api.Ins { return api.Ins{Op: inWord, W: w} }

func local(a, b int) api.Ins { return api.Ins{Op: inLocal, A: a, B: b} }

func name(a int) api.Ins { return api.Ins{Op: inName, A: a} }

func set(a, b int) api.Ins { return api.Ins{Op: inSet, A: a, B: b} }

func setName(a int) api.Ins { return api.Ins{Op: inSetName, A: a} }

func def(a int) api.Ins { return api.Ins{Op: inDef, A: a} }

func push() api.Ins { return api.Ins{Op: inPush} }

func jump(a int) api.Ins { return api.Ins{Op: inJump, A: a} }

func not(a int) api.Ins { return api.Ins{Op: inNot, A: a} }

func fn(a int) api.Ins { return api.Ins{Op: inFn, A: a} }

func prim(a, b int) api.Ins { return api.Ins{Op: inPrim, A: a, B: b} }

func call(a int) api.Ins { return api.Ins{Op: inCall, A: a} }

func tail(a int) api.Ins { return api.Ins{Op: inTail, A: a} }

func cc() api.Ins { return api.Ins{Op: inCC} }

func ccTail() api.Ins { return api.Ins{Op: inCCTail} }

func ret() api.Ins { return api.Ins{Op: inRet} }

func block(l ...api.Ins) api.Block { return api.Block{L: l} }

func blocks(l ...api.Block) []api.Block { return l }

func code1(l ...api.Ins) []api.Block { return blocks(block(l...)) }

// plain is an instruction that goes on to the next one and leaves the stack alone.
func plain() api.Ins { return word(8) }

// pushes put so many words on the stack.
func pushes(n int) []api.Ins { return slices.Repeat([]api.Ins{push()}, n) }

func join(l ...[]api.Ins) []api.Ins { return slices.Concat(l...) }

func copyBlocks(l []api.Block) []api.Block {
	l = slices.Clone(l)
	for i, b := range l {
		l[i].L = slices.Clone(b.L)
	}
	return l
}

// sameBlocks holds nil rows and empty ones for the same.
func sameBlocks(a, b []api.Block) bool {
	return slices.EqualFunc(a, b, func(x, y api.Block) bool {
		return x.Many == y.Many && slices.Equal(x.L, y.L)
	})
}

func depth(t *testing.T, b api.Block) ([]int, bool) {
	t.Helper()
	before := copyBlocks(blocks(b))
	d, ok := code.Depth(b)
	if !sameBlocks(blocks(b), before) {
		t.Errorf("Depth changes %v to %v", before[0], b)
	}
	if again, alsoOk := code.Depth(b); !slices.Equal(again, d) || alsoOk != ok {
		t.Errorf("Depth of %v is %v, %v and then %v, %v", b, d, ok, again, alsoOk)
	}
	return d, ok
}

// depths asks for the numbers of words on the stack, which do not depend on the block's Many.
func depths(t *testing.T, want []int, l ...api.Ins) {
	t.Helper()
	for _, many := range []int{0, 1, -1, mostMany + 1} {
		if d, ok := depth(t, api.Block{Many: many, L: l}); !ok || !slices.Equal(d, want) {
			t.Errorf("Depth of %v is %v, %v, not %v", l, d, ok, want)
		}
	}
}

func noDepths(t *testing.T, l ...api.Ins) {
	t.Helper()
	for _, many := range []int{0, 1, -1, mostMany + 1} {
		if d, ok := depth(t, api.Block{Many: many, L: l}); ok || len(d) > 0 {
			t.Errorf("Depth of %v is %v, %v", l, d, ok)
		}
	}
}

func checks(t *testing.T, l []api.Block, b, at int, e api.Errno) {
	t.Helper()
	before := copyBlocks(l)
	gotB, gotAt, gotE := code.Check(l)
	if gotB != b || gotAt != at || gotE != e {
		t.Errorf("Check of %v is %d, %d, %d, not %d, %d, %d", l, gotB, gotAt, gotE, b, at, e)
	}
	if !sameBlocks(l, before) {
		t.Errorf("Check changes %v to %v", before, l)
	}
}

func right(t *testing.T, l []api.Block) {
	t.Helper()
	checks(t, l, 0, 0, okay)
}

func wrong(t *testing.T, l []api.Block, b, at int) {
	t.Helper()
	checks(t, l, b, at, errCode)
}

// holders are right code, whose first block has an instruction of each kind, some of them twice.
func holders() []api.Block {
	l := blocks(block(
		word(8), push(), // 0, 1
		local(1, 2), not(6), // 2, 3
		name(3), jump(7), // 4, 5
		set(4, 5),                                 // 6
		setName(6), def(7), fn(1), prim(isNot, 1), // 7 to 10
		push(), call(1), cc(), // 11 to 13
		not(18), push(), word(16), tail(1), // 14 to 17
		not(20), ccTail(), // 18, 19
		ret(), // 20
	))
	return append(l, api.Block{Many: 1, L: []api.Ins{ret()}})
}

// has are the fields that each instruction has, by the document's words.
func has(op uint8) string {
	switch op {
	case inWord:
		return "W"
	case inLocal, inSet, inPrim:
		return "AB"
	case inName, inSetName, inDef, inJump, inNot, inFn, inCall, inTail:
		return "A"
	}
	return ""
}

func exists(op uint8) bool { return op >= inWord && op <= inRet }

func TestP11_1_EachInstructionMayBe(t *testing.T) {
	l := holders()
	right(t, l)
	ops := map[uint8]bool{}
	for _, x := range l[0].L {
		ops[x.Op] = true
	}
	for op := range 256 {
		if ops[uint8(op)] != exists(uint8(op)) {
			t.Error(op)
		}
	}
}

// A field that an instruction does not have is 0.
func TestP11_1_FieldsThatAnInstructionDoesNotHave(t *testing.T) {
	numbers := []int{1, 2, 8, -1, -8, 1 << 8, 1 << 32, math.MinInt, math.MaxInt}
	words := []api.Word{8, 2, 10, 18, 26, 3, 4, 11, 12, 1, 1 << 8, 1 << 32, 1 << 63, 1<<64 - 8, 1<<64 - 1}
	tried := 0
	for i, x := range holders()[0].L {
		for _, n := range numbers {
			if !strings.Contains(has(x.Op), "A") {
				y := x
				y.A = n
				tried += replaced(t, i, y)
			}
			if !strings.Contains(has(x.Op), "B") {
				y := x
				y.B = n
				tried += replaced(t, i, y)
			}
		}
		for _, w := range words {
			if !strings.Contains(has(x.Op), "W") {
				y := x
				y.W = w
				tried += replaced(t, i, y)
			}
		}
	}
	if tried < 500 {
		t.Error(tried)
	}
}

// replaced asks that the instruction is wrong that is put into right code.
func replaced(t *testing.T, i int, x api.Ins) int {
	t.Helper()
	l := holders()
	l[0].L[i] = x
	wrong(t, l, 0, i)
	return 1
}

// A field that an instruction has may be many things.
func TestP11_1_FieldsThatAnInstructionHas(t *testing.T) {
	for _, n := range []int{0, 1, 2, 99, 255, 256, 4095, 4096, 1 << 16, 1 << 32, 1 << 40, math.MaxInt} {
		for _, x := range []api.Ins{name(n), setName(n), def(n)} {
			right(t, code1(x, ret()))
		}
		for _, m := range []int{0, 1, 7, 1 << 20, math.MaxInt} {
			right(t, code1(local(n, m), ret()))
			right(t, code1(set(n, m), ret()))
		}
	}
	for _, n := range []int{-1, -2, -256, -1 << 32, math.MinInt} {
		for _, x := range []api.Ins{name(n), setName(n), def(n), local(n, 0), local(0, n), local(n, n), set(n, 0), set(0, n), set(n, n), fn(n), prim(n, 2), prim(n, 0)} {
			wrong(t, code1(x, ret()), 0, 0)
			if x.Op != inPrim {
				wrong(t, code1(plain(), plain(), x, ret()), 0, 2)
			}
		}
		for _, x := range []api.Ins{jump(n), not(n), prim(add, n), call(n), tail(n)} {
			wrong(t, code1(plain(), x, ret()), 0, 0)
		}
	}
}

func TestP11_1_WhatEachInstructionPopsAndPushes(t *testing.T) {
	for _, x := range []api.Ins{word(8), local(1, 2), name(3), set(2, 3), setName(1), def(1), fn(1), cc(), word(0), local(9, 9), {}} {
		depths(t, []int{0, 0}, x, ret())
		depths(t, []int{0, 1, 2, 3, 3}, push(), push(), push(), x, ret())
	}
	depths(t, []int{0, 1}, push(), ret())
	depths(t, []int{0, 1, 2, 3, 4, 5}, append(pushes(5), ret())...)
	for n := range 6 {
		// What is popped is told by B of InPrim, and by A of InCall.
		depths(t, []int{0, 1, 2, 3, 4, 5, 5 - n}, join(pushes(5), []api.Ins{prim(3, n), ret()})...)
		depths(t, []int{0, 1, 2, 3, 4, 5, 5 - n}, join(pushes(5), []api.Ins{call(n), ret()})...)
		depths(t, []int{0, 1, 2, 3, 4, 5}, join(pushes(5), []api.Ins{tail(n)})...)
	}
	// All other instructions pop nothing, whatever their A and B are.
	for op := range 256 {
		if op == inPrim || op == inCall || op == inTail || op == inJump || op == inNot || op == inPush {
			continue
		}
		x := api.Ins{Op: uint8(op), A: 7, B: 9, W: 5}
		if op == inCCTail || op == inRet {
			depths(t, []int{0}, x)
			depths(t, []int{0, 1}, push(), x)
			continue
		}
		depths(t, []int{0, 0}, x, ret())
		depths(t, []int{0, 1, 1}, push(), x, ret())
		x.A, x.B = -7, -9
		depths(t, []int{0, 1, 1}, push(), x, ret())
	}
	depths(t, []int{0, 1, 2}, push(), api.Ins{Op: inPush, A: -1, B: 5}, ret())
}

func TestP11_1_WhereEachInstructionGoesOn(t *testing.T) {
	for op := range 256 {
		x := api.Ins{Op: uint8(op)}
		switch op {
		case inJump, inNot:
			x.A = 2
		case inTail, inCCTail, inRet:
			depths(t, []int{0}, x)
			depths(t, []int{0, -1}, x, ret())
			continue
		}
		n := 0
		if op == inPush {
			n = 1
		}
		want := map[int][]int{inJump: {0, -1, 0}, inNot: {0, 0, 0}}[op]
		if want == nil {
			want = []int{0, n, n}
		}
		depths(t, want, x, plain(), ret())
		noDepths(t, x)
	}
	depths(t, []int{0, -1, -1, 0}, jump(3), ret(), ret(), ret())
	depths(t, []int{0, 0, -1, 0}, not(3), ret(), ret(), ret())
	// An instruction that is no jump has no target.
	depths(t, []int{0, 0}, api.Ins{Op: inWord, A: 9}, api.Ins{Op: inRet, A: -5})
	depths(t, []int{0, -1}, api.Ins{Op: inCCTail, A: 1}, ret())
	depths(t, []int{0, 1, -1}, push(), tail(1), ret())
}

func TestP11_2_NoInstruction(t *testing.T) {
	noDepths(t)
	noDepths(t, []api.Ins{}...)
	whole := []api.Ins{ret(), ret()}
	noDepths(t, whole[:0]...)
}

func TestP11_2_BranchesThatMeetAgain(t *testing.T) {
	depths(t, []int{0, 0, 0, 0, 0, 0}, name(0), not(4), word(8), jump(5), word(16), ret())
	depths(t, []int{0, 0, 0, 1, 0, 1}, name(0), not(4), push(), jump(5), push(), ret())
	depths(t, []int{0, 1, 2, 2, 1, 2, 1}, push(), push(), not(5), call(1), jump(6), prim(isNot, 1), ret())
	// At a different number of words each, however far that is apart, and whichever has more.
	noDepths(t, name(0), not(4), push(), jump(5), word(16), ret())
	noDepths(t, name(0), not(4), word(16), jump(5), push(), ret())
	noDepths(t, not(2), push(), ret())
	noDepths(t, push(), not(3), prim(isNot, 1), ret())
	noDepths(t, join([]api.Ins{not(6)}, pushes(5), []api.Ins{ret()})...)
	noDepths(t, push(), push(), not(5), call(2), jump(6), prim(isNot, 1), ret())
	// They meet at a number of their own, and again at the same one.
	depths(t, []int{0, 0, 1, 2, 0, 0, 0}, not(4), push(), push(), prim(add, 2), not(6), plain(), ret())
	// Many ways to one instruction.
	depths(t, []int{0, 0, 0, 0, 0}, not(4), not(4), not(4), not(4), ret())
	noDepths(t, not(4), not(4), push(), not(4), ret())
	// The target is the next instruction.
	depths(t, []int{0, 0, 0, 0}, not(1), jump(2), not(3), ret())
	// What is not come to leads nowhere.
	depths(t, []int{0, -1, 0}, jump(2), push(), ret())
	depths(t, []int{0, 1, -1, -1, 1}, push(), jump(4), push(), push(), ret())
	depths(t, []int{0, -1, -1}, ret(), push(), ret())
	depths(t, []int{0, -1, -1, -1}, ret(), not(3), jump(2), ret())
}

func TestP11_2_CallsPrimitivesAndPushes(t *testing.T) {
	depths(t, []int{0, 0, 1, 1, 2, 0}, word(8), push(), word(16), push(), prim(add, 2), ret())
	// ((f (+ 1 2)) 3 4)
	depths(t, []int{0, 0, 1, 1, 2, 2, 3, 3, 4, 2, 3, 3, 2}, word(24), push(), word(32), push(), word(8), push(), word(16), push(), prim(add, 2), push(), name(0), call(1), tail(2))
	depths(t, []int{0, 0, 0, 0}, prim(time, 0), call(0), cc(), ccTail())
	depths(t, []int{0, 1, 2, 2, 1, 0}, push(), push(), call(0), call(1), call(1), ret())
	depths(t, []int{0, 1, 2, 3, 0, 1}, push(), push(), push(), call(3), push(), ret())
	depths(t, []int{0, 1, 1, 2, 1, 1}, push(), cc(), push(), prim(isNot, 1), cc(), ccTail())
}

func TestP11_2_PopsOfAllThatIsThereAndOfMore(t *testing.T) {
	for n := range 6 {
		for _, x := range []api.Ins{prim(add, n), call(n)} {
			l := join(pushes(n), []api.Ins{x, ret()})
			d, ok := depth(t, block(l...))
			if !ok || d[len(d)-1] != 0 {
				t.Error(n, x, d, ok)
			}
		}
		depths(t, []int{0, 1, 2, 3, 4, 5}[:n+1], append(pushes(n), tail(n))...)
		for _, more := range []int{1, 2, 100, 1 << 32, math.MaxInt - n} {
			for _, x := range []api.Ins{prim(add, n+more), call(n + more)} {
				noDepths(t, join(pushes(n), []api.Ins{x, ret()})...)
				noDepths(t, join(pushes(n), []api.Ins{x}, pushes(n+2), []api.Ins{ret()})...)
			}
			noDepths(t, append(pushes(n), tail(n+more))...)
		}
		for _, less := range []int{-1, -2, -1 << 32, math.MinInt + 1, math.MinInt} {
			noDepths(t, join(pushes(n), []api.Ins{prim(add, less), ret()})...)
			noDepths(t, join(pushes(n), []api.Ins{call(less), ret()})...)
			noDepths(t, append(pushes(n), tail(less))...)
		}
	}
	// What is not come to pops what it will.
	depths(t, []int{0, -1, -1, -1}, ret(), prim(add, 1), call(-1), tail(math.MinInt))
	depths(t, []int{0, -1, 0}, jump(2), prim(add, 5), ret())
	// One way has the words, and the other one does not.
	noDepths(t, not(3), push(), jump(3), prim(isNot, 1), ret())
}

func TestP11_2_Targets(t *testing.T) {
	const last = 4
	for _, target := range []int{math.MinInt, -1 << 32, -last, -1, 0, 1, 2, 3, last, last + 1, last + 2, 1 << 32, math.MaxInt} {
		for i := range last + 1 {
			l := slices.Repeat([]api.Ins{plain()}, last+1)
			l[last] = ret()
			l[i] = jump(target)
			if target <= i || target > last {
				noDepths(t, l...)
				l[i] = not(target)
				noDepths(t, l...)
				continue
			}
			want := make([]int, last+1)
			for k := i + 1; k < target; k++ {
				want[k] = -1
			}
			depths(t, want, l...)
			l[i] = not(target)
			depths(t, make([]int, last+1), l...)
		}
	}
	// The last instruction has none that comes after it.
	noDepths(t, plain(), not(2))
	noDepths(t, plain(), not(1))
	noDepths(t, plain(), jump(2))
	noDepths(t, jump(0))
	noDepths(t, jump(1))
	// Of two successors, each is asked.
	noDepths(t, jump(3), ret(), ret(), not(3))
	// Those that are not come to go where they will.
	depths(t, []int{0, -1, -1, -1, -1}, ret(), jump(0), not(9), jump(-1), push())
}

func TestP11_2_TheLastInstructionGoesOn(t *testing.T) {
	for _, x := range []api.Ins{word(8), local(0, 0), name(0), set(0, 0), setName(0), def(0), push(), fn(1), prim(time, 0), call(0), cc(), {}, {Op: inRet + 1}, {Op: 255}} {
		noDepths(t, x)
		noDepths(t, plain(), x)
		noDepths(t, not(2), ret(), x)
		// It is not come to.
		depths(t, []int{0, -1}, ret(), x)
	}
	for _, x := range []api.Ins{tail(0), ccTail(), ret()} {
		depths(t, []int{0}, x)
		depths(t, []int{0, 0}, plain(), x)
	}
	depths(t, []int{0, 1, 2}, push(), push(), ccTail())
	depths(t, []int{0, 1, 2}, push(), push(), tail(1))
}

// What lies beyond a row's length is not read.
func TestP11_2_BeyondTheLength(t *testing.T) {
	whole := []api.Ins{plain(), jump(3), ret(), ret()}
	noDepths(t, whole[:3]...)
	noDepths(t, whole[:1]...)
	wrong(t, blocks(block(whole[:1]...)), 0, 0)
	l := blocks(block(ret()), block(ret()), block(plain()))
	right(t, l[:2])
	checks(t, l[:0], 0, 0, errArg)
	l[0] = block(fn(2), ret())
	wrong(t, l[:2], 0, 0)
	if whole[3] != ret() || len(l[2].L) != 1 {
		t.Error(whole, l)
	}
}

func TestP11_2_AnswersAreNew(t *testing.T) {
	l := []api.Ins{push(), push(), prim(add, 2), ret()}
	first, _ := code.Depth(block(l...))
	second, _ := code.Depth(block(l...))
	for i := range first {
		first[i] = -7
	}
	_ = append(first[:2], 99)
	if !slices.Equal(second, []int{0, 1, 2, 0}) {
		t.Error(second)
	}
	l[0] = plain()
	noDepths(t, l...)
	if !slices.Equal(second, []int{0, 1, 2, 0}) {
		t.Error(second)
	}
}

func TestP11_2_LongBlocks(t *testing.T) {
	const many = 200000
	l := append(pushes(many), tail(many))
	d, ok := code.Depth(block(l...))
	if !ok || len(d) != many+1 || d[0] != 0 || d[many] != many || d[many/2] != many/2 {
		t.Error(len(d), ok)
	}
	right(t, code1(l...))
	l[many] = tail(many - 1)
	wrong(t, code1(l...), 0, many)
	l[many] = tail(many + 1)
	wrong(t, code1(l...), 0, 0)
	for i := range many {
		l[i] = not(many)
	}
	l[many] = ret()
	right(t, code1(l...))
	l[many/2] = push()
	wrong(t, code1(l...), 0, 0)
	functions := slices.Repeat(blocks(block(fn(many), ret())), many+1)
	right(t, functions)
	functions[many] = block(fn(many+1), ret())
	wrong(t, functions, many, 0)
}

func TestP11_3_NoBlock(t *testing.T) {
	checks(t, nil, 0, 0, errArg)
	checks(t, []api.Block{}, 0, 0, errArg)
}

func TestP11_3_ABlockWithoutInstructions(t *testing.T) {
	wrong(t, blocks(api.Block{}), 0, 0)
	wrong(t, blocks(block([]api.Ins{}...)), 0, 0)
	wrong(t, blocks(block(ret()), block(ret()), api.Block{Many: 1}, block(ret())), 2, 0)
}

func TestP11_3_OpsThatDoNotExist(t *testing.T) {
	for op := range 256 {
		x := api.Ins{Op: uint8(op)}
		if exists(x.Op) {
			continue
		}
		wrong(t, code1(x, ret()), 0, 0)
		wrong(t, code1(plain(), plain(), x, ret()), 0, 2)
		wrong(t, blocks(block(ret()), block(plain(), x, ret())), 1, 1)
		wrong(t, code1(plain(), x), 0, 0)
		for _, y := range []api.Ins{{Op: x.Op, A: 1}, {Op: x.Op, B: 1}, {Op: x.Op, W: 8}, {Op: x.Op, A: -1}} {
			wrong(t, code1(plain(), y, ret()), 0, 1)
		}
	}
}

func TestP11_3_ConstantWords(t *testing.T) {
	valid := []api.Word{0, 8, 1<<64 - 8, greatest << 3, 1<<64 - greatest<<3, 2, 10, 18, 26, 3, 11, greatest<<3 | 3, 4, 12, greatest<<3 | 4}
	for _, w := range valid {
		right(t, code1(word(w), ret()))
	}
	addresses := []api.Word{1, 9, 17, 1<<16<<3 | 1, greatest<<3 | 1}
	invalid := []api.Word{
		1 << 43, 1<<64 - 1<<43, 1 << 63, 1 << 62, // numbers that are too great
		34, 42, 1<<43 | 2, 1<<64 - 6, // marks that there are none of
		1<<43 | 1, 1<<63 | 1, 1<<64 - 7, 1<<43 | 3, 1<<64 - 5, 1<<43 | 4, 1<<64 - 4, // places, names and handles that are too great
		5, 6, 7, 13, 14, 15, 1<<64 - 3, 1<<64 - 2, 1<<64 - 1, // kinds that there are none of
	}
	for _, w := range slices.Concat(addresses, invalid) {
		wrong(t, code1(word(w), ret()), 0, 0)
		wrong(t, code1(plain(), push(), word(w), tail(1)), 0, 2)
	}
}

func TestP11_3_Functions(t *testing.T) {
	for _, count := range []int{1, 2, 3, 10} {
		for _, a := range []int{math.MinInt, -count, -1, 0, 1, 2, 3, count - 1, count, count + 1, 100, 1 << 32, math.MaxInt} {
			for in := range count {
				l := slices.Repeat(blocks(block(ret())), count)
				l[in] = block(plain(), fn(a), ret())
				if a > 0 && a < count {
					right(t, l)
					continue
				}
				wrong(t, l, in, 1)
			}
		}
	}
	// A function may be of its own block, and of one before it; two may be of one.
	right(t, blocks(block(fn(1), ret()), block(fn(1), fn(2), ret()), block(fn(1), fn(2), ret())))
}

// primitives are the numbers of arguments of those of the document, in the order of their numbers, from 1 on.
func primitives() []int {
	return []int{2, 2, 2, 2, 2, 2, 2, 2, 1, 1, 1, 2, 1, 1, 1, 1, 1, 1, 1, 1, 1, 2, 1, 0, 2, 2, 1, 2, 1, 0}
}

func TestP11_3_Primitives(t *testing.T) {
	if len(primitives()) != time {
		t.Fatal(len(primitives()))
	}
	for op := -3; op < pastLast+5; op++ {
		for many := range 6 {
			l := code1(join(pushes(many), []api.Ins{prim(op, many), ret()})...)
			if op >= add && op < pastLast && op != callCC && primitives()[op-1] == many {
				right(t, l)
				continue
			}
			wrong(t, l, 0, many)
		}
	}
	for _, op := range []int{math.MinInt, math.MaxInt, 1 << 8, 1<<8 + add, 1<<16 + isNot, 1<<32 + time, -1 << 32, -time} {
		wrong(t, code1(prim(op, 0), ret()), 0, 0)
		wrong(t, code1(push(), plain(), prim(op, 1), ret()), 0, 2)
	}
	for _, l := range [][]api.Ins{{prim(callCC, 0), ret()}, {push(), prim(callCC, 1), ret()}, {push(), push(), prim(callCC, 2), ret()}} {
		wrong(t, code1(l...), 0, len(l)-2)
	}
}

// The numbers of arguments are those of layer 9.
func TestP11_3_PrimitivesOfLayer9(t *testing.T) {
	names := []string{"+", "-", "*", "quotient", "remainder", "<", "=", "eq?", "not", "null?", "pair?", "cons", "car", "cdr", "number?", "symbol?", "procedure?", "call/cc", "out", "spawn", "micro", "after", "cancel", "promise", "settle", "then", "stream", "write", "read", "time"}
	if len(names) != time {
		t.Fatal(len(names))
	}
	for i, s := range names {
		op, many, ok := scope.Prim(s)
		if op != i+1 || many != primitives()[i] || !ok {
			t.Error(s, op, many, ok)
		}
	}
}

func TestP11_3_WordsThatAreLeft(t *testing.T) {
	for n := range 5 {
		for a := range n + 1 {
			l := code1(append(pushes(n), tail(a))...)
			if a == n {
				right(t, l)
				continue
			}
			wrong(t, l, 0, n)
		}
		for _, x := range []api.Ins{ccTail(), ret()} {
			l := code1(append(pushes(n), x)...)
			if n == 0 {
				right(t, l)
				continue
			}
			wrong(t, l, 0, n)
			right(t, code1(join(pushes(n), []api.Ins{call(n), x})...))
		}
		// These leave words as they please.
		right(t, code1(join(pushes(n), []api.Ins{call(0), cc(), tail(n)})...))
		right(t, code1(join(pushes(n+2), []api.Ins{prim(add, 2), tail(n)})...))
	}
	wrong(t, code1(not(4), push(), push(), tail(1), push(), push(), tail(2)), 0, 3)
	wrong(t, code1(not(4), push(), push(), tail(2), push(), push(), ret()), 0, 6)
}

func TestP11_3_Many(t *testing.T) {
	for _, many := range []int{math.MinInt, -1 << 32, -1, 0, 1, 2, 50, mostMany - 1, mostMany, mostMany + 1, 255, 256, 1 << 32, math.MaxInt} {
		b := api.Block{Many: many, L: []api.Ins{plain(), ret()}}
		if many == 0 {
			right(t, blocks(b))
		} else {
			wrong(t, blocks(b), 0, 0)
			wrong(t, blocks(b, block(ret())), 0, 0)
		}
		for _, before := range []int{1, 2, 5} {
			l := append(slices.Repeat(blocks(block(ret())), before), b, block(ret()))
			if many >= 0 && many <= mostMany {
				right(t, l)
			} else {
				wrong(t, l, before, 0)
			}
		}
	}
}

func TestP11_3_InstructionsThatAreNotReached(t *testing.T) {
	for _, l := range [][]api.Ins{
		{ret(), ret()}, {plain(), ret(), plain(), ret()}, {jump(2), plain(), ret()}, {tail(0), ret()}, {ccTail(), ret()},
		{not(3), ret(), ret(), ret()}, {plain(), ret(), {}}, {ret(), word(9)}, {jump(3), not(3), plain(), ret()},
		{plain(), plain(), ret(), jump(4), ret()}, {plain(), ret(), jump(0)},
	} {
		wrong(t, code1(l...), 0, 0)
		wrong(t, blocks(block(ret()), block(fn(1), ret()), block(l...)), 2, 0)
	}
}

// A block that is wrong as a whole is wrong at its first instruction, also if another one is wrong, too.
func TestP11_3_AsAWhole(t *testing.T) {
	bad := word(9)
	for _, b := range []api.Block{
		{Many: mostMany + 1, L: []api.Ins{plain(), bad, ret()}},
		{Many: -1, L: []api.Ins{plain(), bad, ret()}},
		{L: []api.Ins{plain(), bad}},
		{L: []api.Ins{plain(), bad, jump(2), ret()}},
		{L: []api.Ins{plain(), bad, prim(add, 2), ret()}},
		{L: []api.Ins{plain(), bad, ret(), ret()}},
		{L: []api.Ins{plain(), bad, not(4), push(), ret()}},
	} {
		wrong(t, blocks(b), 0, 0)
		wrong(t, blocks(block(ret()), b), 1, 0)
	}
	wrong(t, blocks(api.Block{Many: 1, L: []api.Ins{plain(), bad, ret()}}), 0, 0)
	wrong(t, blocks(block(ret()), api.Block{Many: 1, L: []api.Ins{plain(), bad, ret()}}), 1, 1)
}

func TestP11_3_WhichIsFirst(t *testing.T) {
	good, bad := block(plain(), ret()), block(plain(), word(9), api.Ins{}, ret())
	wrong(t, blocks(bad), 0, 1)
	wrong(t, blocks(good, bad, bad), 1, 1)
	wrong(t, blocks(bad, block(), good), 0, 1)
	wrong(t, blocks(good, block(), bad), 1, 0)
	wrong(t, blocks(good, bad, api.Block{Many: -1}), 1, 1)
	wrong(t, blocks(good, good, block(push(), prim(callCC, 1), push(), ret()), bad), 2, 1)
	// In the order in which they stand, not in that of the reasons or of a run.
	wrong(t, code1(not(4), name(0), jump(5), ret(), word(9), ret()), 0, 0)
	wrong(t, code1(not(3), name(-1), jump(4), word(9), ret()), 0, 1)
	wrong(t, code1(not(3), name(1), jump(4), word(9), ret()), 0, 3)
	wrong(t, code1(push(), local(0, -1), fn(0), prim(99, 1), push(), ret()), 0, 1)
	wrong(t, code1(push(), local(0, 1), fn(0), prim(99, 1), push(), ret()), 0, 2)
	wrong(t, blocks(block(push(), local(0, 1), fn(1), prim(99, 1), push(), ret()), bad), 0, 3)
	wrong(t, blocks(block(push(), local(0, 1), fn(1), prim(isNot, 1), push(), ret()), bad), 0, 5)
	wrong(t, blocks(block(push(), local(0, 1), fn(1), prim(isNot, 1), push(), tail(1)), bad), 1, 1)
}

// What is wrong with a block does not depend on what came before.
func TestP11_3_EachCallIsItsOwn(t *testing.T) {
	wrong(t, blocks(block(ret()), block(fn(2), ret())), 1, 0)
	right(t, blocks(block(ret()), block(fn(2), ret()), block(ret())))
	wrong(t, blocks(block(ret()), block(fn(2), ret())), 1, 0)
	l := blocks(block(plain(), ret()))
	right(t, l)
	l[0].L[0] = word(9)
	wrong(t, l, 0, 0)
	// One row of instructions may be that of two blocks.
	row := []api.Ins{plain(), ret()}
	right(t, blocks(block(row...), api.Block{Many: 3, L: row}))
}

// The second, slower way: every state that can be come to, of an instruction and a number of words, in no order.

type state struct{ at, depth int }

func slowStep(x api.Ins, at int) (pop, push int, next []int) {
	if x.Op == inPrim {
		pop = x.B
	}
	if x.Op == inCall || x.Op == inTail {
		pop = x.A
	}
	if x.Op == inPush {
		push = 1
	}
	if x.Op != inJump && x.Op != inTail && x.Op != inCCTail && x.Op != inRet {
		next = append(next, at+1)
	}
	if x.Op == inJump || x.Op == inNot {
		next = append(next, x.A)
	}
	return pop, push, next
}

func slowDepth(l []api.Ins) ([]int, bool) {
	seen := map[state]bool{}
	todo := []state{{}}
	if len(l) == 0 {
		return nil, false
	}
	d := slices.Repeat([]int{-1}, len(l))
	for len(todo) > 0 {
		s := todo[len(todo)-1]
		todo = todo[:len(todo)-1]
		if seen[s] {
			continue
		}
		seen[s] = true
		if d[s.at] >= 0 && d[s.at] != s.depth {
			return nil, false
		}
		d[s.at] = s.depth
		pop, push, next := slowStep(l[s.at], s.at)
		if pop < 0 || pop > s.depth {
			return nil, false
		}
		for _, n := range next {
			if n <= s.at || n >= len(l) {
				return nil, false
			}
			todo = append(todo, state{n, s.depth - pop + push})
		}
	}
	return d, true
}

func slowWord(w api.Word) bool {
	n := int64(w) / 8
	switch w % 8 {
	case 0:
		return -greatest <= n && n <= greatest
	case 2:
		return w <= 26
	case 3, 4:
		return w/8 <= greatest
	}
	return false
}

func slowWrong(l []api.Block, x api.Ins, depth int) bool {
	fields := has(x.Op)
	switch {
	case !exists(x.Op), x.A < 0, x.B < 0, !slowWord(x.W):
		return true
	case x.A != 0 && !strings.Contains(fields, "A"), x.B != 0 && !strings.Contains(fields, "B"), x.W != 0 && !strings.Contains(fields, "W"):
		return true
	case x.Op == inFn:
		return x.A == 0 || x.A >= len(l)
	case x.Op == inPrim:
		return x.A == 0 || x.A >= pastLast || x.A == callCC || primitives()[x.A-1] != x.B
	case x.Op == inTail:
		return x.A != depth
	case x.Op == inCCTail, x.Op == inRet:
		return depth != 0
	}
	return false
}

func slowCheck(l []api.Block) (int, int, api.Errno) {
	if len(l) == 0 {
		return 0, 0, errArg
	}
	for i, b := range l {
		d, ok := slowDepth(b.L)
		if !ok || slices.Contains(d, -1) || b.Many < 0 || b.Many > mostMany || i == 0 && b.Many != 0 {
			return i, 0, errCode
		}
		for k, x := range b.L {
			if slowWrong(l, x, d[k]) {
				return i, k, errCode
			}
		}
	}
	return 0, 0, okay
}

// All blocks of up to four instructions of a few.
func TestP11_2_AllShortBlocksAgainstASlowerWay(t *testing.T) {
	few := []api.Ins{plain(), push(), jump(1), jump(2), jump(3), jump(0), not(1), not(2), not(3), not(4), prim(isNot, 1), prim(add, 2), call(0), call(1), tail(0), tail(1), ccTail(), ret()}
	var l []api.Ins
	good := 0
	var all func()
	all = func() {
		want, wantOk := slowDepth(l)
		d, ok := code.Depth(block(l...))
		if ok != wantOk || !slices.Equal(d, want) {
			t.Fatal(l, d, ok, want, wantOk)
		}
		b, at, e := slowCheck(code1(l...))
		checks(t, code1(l...), b, at, e)
		if e == okay {
			good++
		}
		if len(l) == 4 || t.Failed() {
			return
		}
		for _, x := range few {
			l = append(l, x)
			all()
			l = l[:len(l)-1]
		}
	}
	all()
	if good < 100 {
		t.Error(good)
	}
}

func TestP11_2_RandomBlocksAgainstASlowerWay(t *testing.T) {
	r := rand.New(rand.NewSource(110))
	good, reached := 0, 0
	for range 200000 {
		var l []api.Ins
		for i := range r.Intn(12) {
			x := api.Ins{Op: uint8(r.Intn(18)), A: r.Intn(3), B: r.Intn(3)}
			if x.Op == inJump || x.Op == inNot {
				x.A = i + 1 + r.Intn(4)
			}
			if r.Intn(3) == 0 {
				x = []api.Ins{push(), plain(), not(i + 1 + r.Intn(3))}[r.Intn(3)]
			}
			l = append(l, x)
		}
		if len(l) > 0 && r.Intn(2) == 0 {
			l[len(l)-1] = ret()
		}
		want, wantOk := slowDepth(l)
		d, ok := depth(t, block(l...))
		if ok != wantOk || !slices.Equal(d, want) {
			t.Fatal(l, d, ok, want, wantOk)
		}
		if ok {
			good++
			if !slices.Contains(d, -1) {
				reached++
			}
		}
	}
	if good < 10000 || reached < 1000 {
		t.Error(good, reached)
	}
}

// writer writes right code by chance.
type writer struct {
	r     *rand.Rand
	count int
	l     []api.Ins
}

func (w *writer) add(x api.Ins) int {
	w.l = append(w.l, x)
	return len(w.l) - 1
}

func (w *writer) constant() api.Word {
	n := api.Word(w.r.Intn(1 << uint(w.r.Intn(40))))
	return []api.Word{n << 3, -(n << 3), n<<3 | 3, n<<3 | 4, 2, 10, 18, 26}[w.r.Intn(8)]
}

func (w *writer) arguments(n, deep int) {
	for range n {
		w.value(deep)
		w.add(push())
	}
}

func (w *writer) value(deep int) {
	if deep == 0 {
		w.add([]api.Ins{word(w.constant()), local(w.r.Intn(3), w.r.Intn(5)), name(w.r.Intn(9)), prim(promise, 0), prim(time, 0)}[w.r.Intn(5)])
		return
	}
	deep--
	switch w.r.Intn(8) {
	case 0:
		w.value(deep)
		w.add([]api.Ins{set(w.r.Intn(3), w.r.Intn(5)), setName(w.r.Intn(9)), def(w.r.Intn(9)), cc()}[w.r.Intn(4)])
	case 1:
		w.choice(deep)
	case 2:
		if w.count > 1 {
			w.add(fn(1 + w.r.Intn(w.count-1)))
			return
		}
		w.value(deep)
	case 3, 4:
		op := 1 + w.r.Intn(time)
		if op == callCC {
			op = out
		}
		w.arguments(primitives()[op-1], deep)
		w.add(prim(op, primitives()[op-1]))
	case 5, 6:
		n := w.r.Intn(4)
		w.arguments(n, deep)
		w.value(deep)
		w.add(call(n))
	case 7:
		w.value(deep)
		w.value(deep)
	}
}

func (w *writer) choice(deep int) {
	w.value(deep)
	asked := w.add(not(0))
	w.value(deep)
	first := w.add(jump(0))
	w.l[asked].A = len(w.l)
	w.value(deep)
	w.l[first].A = len(w.l)
}

// last writes what nothing follows.
func (w *writer) last(deep int) {
	switch w.r.Intn(5) {
	case 0, 1:
		w.value(deep)
		w.add(ret())
	case 2:
		w.value(deep)
		asked := w.add(not(0))
		w.last(deep / 2)
		w.l[asked].A = len(w.l)
		w.last(deep / 2)
	case 3:
		n := w.r.Intn(4)
		w.arguments(n, deep/2)
		w.value(deep)
		w.add(tail(n))
	case 4:
		w.value(deep)
		w.add(ccTail())
	}
}

func randomCode(r *rand.Rand) []api.Block {
	l := make([]api.Block, 1+r.Intn(4))
	for i := range l {
		w := &writer{r: r, count: len(l)}
		w.last(r.Intn(4))
		l[i] = block(w.l...)
		if i > 0 {
			l[i].Many = r.Intn(mostMany + 1)
		}
	}
	return l
}

// spoil changes something of code by chance; it may be right nevertheless.
func spoil(r *rand.Rand, l []api.Block) {
	b := &l[r.Intn(len(l))]
	if len(b.L) == 0 {
		return
	}
	i := r.Intn(len(b.L))
	x := &b.L[i]
	n := []int{-1, 0, 1, 2, x.A + 1, x.A - 1, x.B + 1, x.B - 1, i, i + 1, len(l), len(l) - 1, len(b.L), len(b.L) - 1, callCC, time, pastLast, math.MinInt, math.MaxInt, r.Intn(40)}[r.Intn(20)]
	switch r.Intn(9) {
	case 0, 1:
		x.A = n
	case 2:
		x.B = n
	case 3:
		x.W = api.Word(r.Intn(60))
	case 4:
		x.W = api.Word(r.Uint64() >> uint(r.Intn(30)))
	case 5:
		x.Op = uint8(r.Intn(19))
	case 6:
		b.Many = []int{-1, 0, 1, mostMany, mostMany + 1}[r.Intn(5)]
	case 7:
		b.L = slices.Delete(b.L, i, i+1)
	case 8:
		b.L = slices.Insert(b.L, i, []api.Ins{plain(), push(), ret(), {Op: uint8(r.Intn(18)), A: r.Intn(3)}}[r.Intn(4)])
	}
}

func TestP11_3_RandomCodeAgainstASlowerWay(t *testing.T) {
	r := rand.New(rand.NewSource(113))
	good, whole, single := 0, 0, 0
	for range 100000 {
		l := randomCode(r)
		right(t, l)
		for range 1 + r.Intn(3) {
			spoil(r, l)
		}
		b, at, e := slowCheck(l)
		checks(t, l, b, at, e)
		switch {
		case e == okay:
			good++
		case at == 0:
			whole++
		default:
			single++
		}
		if t.Failed() {
			return
		}
	}
	if good < 5000 || whole < 5000 || single < 5000 {
		t.Error(good, whole, single)
	}
}

// Whatever code comes, the calls end and do not panic.
func TestP11_3_AnyCode(t *testing.T) {
	r := rand.New(rand.NewSource(114))
	numbers := []int{math.MinInt, math.MinInt + 1, -1, 0, 1, 2, 3, 4, 1 << 31, 1 << 32, math.MaxInt - 1, math.MaxInt}
	pick := func() int { return numbers[r.Intn(len(numbers))] }
	for range 100000 {
		var l []api.Block
		for range r.Intn(4) {
			b := api.Block{Many: pick()}
			if r.Intn(2) == 0 {
				b.Many = 0
			}
			for range r.Intn(6) {
				b.L = append(b.L, api.Ins{Op: uint8(r.Intn(256)), A: pick(), B: pick(), W: api.Word(r.Uint64())})
				if r.Intn(4) > 0 {
					b.L[len(b.L)-1] = api.Ins{Op: uint8(r.Intn(17)), A: pick()}
				}
			}
			l = append(l, b)
			want, wantOk := slowDepth(b.L)
			if d, ok := depth(t, b); ok != wantOk || !slices.Equal(d, want) {
				t.Fatal(b, d, ok, want, wantOk)
			}
		}
		b, at, e := slowCheck(l)
		checks(t, l, b, at, e)
		if t.Failed() {
			return
		}
	}
}

// run goes through a block by chance up to a call or its end, and tells whether an instruction came twice, or the stack was not as Depth tells.
func run(r *rand.Rand, l []api.Ins, at int, d []int) (end int, ok bool) {
	seen := map[int]bool{}
	stack := d[at]
	for {
		if seen[at] || d[at] != stack {
			return at, false
		}
		seen[at] = true
		pop, push, next := slowStep(l[at], at)
		stack += push - pop
		if len(next) == 0 {
			return -1, true
		}
		to := next[r.Intn(len(next))]
		if op := l[at].Op; op == inCall || op == inCC {
			return to, true
		}
		at = to
	}
}

func TestP11_4_ValidCodeEndsBetweenCalls(t *testing.T) {
	r := rand.New(rand.NewSource(115))
	runs, calls := 0, 0
	for range 20000 {
		l := randomCode(r)
		if r.Intn(2) == 0 {
			spoil(r, l)
		}
		if _, _, e := code.Check(l); e != okay {
			continue
		}
		for _, b := range l {
			d, ok := code.Depth(b)
			if !ok {
				t.Fatal(b)
			}
			for at := 0; at >= 0; runs++ {
				end, ok := run(r, b.L, at, d)
				if !ok {
					t.Fatal(b, at, end)
				}
				if at = end; at >= 0 {
					calls++
				}
			}
		}
	}
	if runs < 20000 || calls < 5000 {
		t.Error(runs, calls)
	}
}

// No code may be that comes to an instruction again, however it gets there.
func TestP11_4_NoWayBack(t *testing.T) {
	for long := 1; long < 8; long++ {
		for from := range long {
			for to := range from + 1 {
				l := append(slices.Repeat([]api.Ins{plain()}, long), ret())
				for _, x := range []api.Ins{jump(to), not(to)} {
					l[from] = x
					noDepths(t, l...)
					wrong(t, code1(l...), 0, 0)
				}
				// A call between does not help.
				if to < from {
					l[to] = call(0)
					noDepths(t, l...)
					wrong(t, code1(l...), 0, 0)
				}
			}
		}
	}
	// There, back, and there.
	noDepths(t, jump(2), ret(), jump(1))
	noDepths(t, not(3), jump(3), ret(), not(2))
}

// The document's examples, and those of other chapters whose code is told.
func TestExamples(t *testing.T) {
	depths(t, []int{0, 0}, api.Ins{Op: api.InWord, W: 8}, api.Ins{Op: api.InRet})
	noDepths(t, api.Ins{Op: api.InPush})
	right(t, code1(word(8), ret()))
	wrong(t, code1(push()), 0, 0)
	l := []api.Ins{{Op: api.InName}, {Op: api.InNot, A: 4}, {Op: api.InWord, W: 8}, {Op: api.InRet}, {Op: api.InWord, W: 16}, {Op: api.InRet}}
	depths(t, make([]int, 6), l...)
	right(t, code1(l...))
	right(t, code1(word(40), ret()))
}

func TestNumbersOfInstructions(t *testing.T) {
	want := []uint8{inWord, inLocal, inName, inSet, inSetName, inDef, inPush, inJump, inNot, inFn, inPrim, inCall, inTail, inCC, inCCTail, inRet}
	got := []uint8{api.InWord, api.InLocal, api.InName, api.InSet, api.InSetName, api.InDef, api.InPush, api.InJump, api.InNot, api.InFn, api.InPrim, api.InCall, api.InTail, api.InCC, api.InCCTail, api.InRet}
	if !reflect.DeepEqual(got, want) {
		t.Error(got)
	}
	if l := []int{api.PrAdd, api.PrNot, api.PrCons, api.PrFn, api.PrCC, api.HoOut, api.HoAfter, api.HoPromise, api.HoSettle, api.HoRead, api.HoTime, api.PrLast, api.MaxMany}; !slices.Equal(l, []int{add, isNot, cons, procedure, callCC, out, after, promise, settle, read, time, pastLast, mostMany}) {
		t.Error(l)
	}
}

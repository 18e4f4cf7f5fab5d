package gen_test

import (
	"math"
	"math/rand"
	"runtime/debug"
	"slices"
	"strconv"
	"strings"
	"testing"

	"eddywheel/api"
	"eddywheel/code"
	"eddywheel/expand"
	"eddywheel/gen"
	"eddywheel/names"
	"eddywheel/read"
	"eddywheel/scope"
)

// Written out, so that a number or a limit that moves is seen.
const (
	foInt, foBool, foQuote, foName, foIf, foFn, foSet   = 1, 2, 3, 4, 5, 6, 7
	foSeq, foDef, foCall, foLocal, foPrim, foConst      = 8, 9, 10, 11, 12, 13
	add, isNot, cons, car, callCC, out, settle          = 1, 9, 12, 13, 18, 19, 25
	after, promise, then, write, readNext, time, pastAt = 22, 24, 26, 28, 29, 30, 31

	greatest = 1<<40 - 1
	mostMany = 100

	okay   api.Errno = 0
	errArg api.Errno = 1
)

// arguments are the numbers of arguments of the primitives, in the order of their numbers, from 1 on.
func arguments() []int {
	return []int{2, 2, 2, 2, 2, 2, 2, 2, 1, 1, 1, 2, 1, 1, 1, 1, 1, 1, 1, 1, 1, 2, 1, 0, 2, 2, 1, 2, 1, 0}
}

// tree is a form with its parts.
type tree struct {
	form  api.Form
	parts []tree
}

func word(w api.Word) tree { return tree{form: api.Form{Kind: foConst, W: w}} }

func num(n int) tree { return word(api.Word(n) << 3) }

func local(a, n int) tree { return tree{form: api.Form{Kind: foLocal, A: a, N: n}} }

func name(n int) tree { return tree{form: api.Form{Kind: foName, N: n}} }

func choose(x, y, z tree) tree { return tree{api.Form{Kind: foIf}, []tree{x, y, z}} }

func fn(many int, x tree) tree { return tree{api.Form{Kind: foFn, N: many}, []tree{x}} }

func set(a, n int, x tree) tree { return tree{api.Form{Kind: foSet, A: a, N: n}, []tree{x}} }

func def(n int, x tree) tree { return tree{api.Form{Kind: foDef, N: n}, []tree{x}} }

func seq(l ...tree) tree { return tree{api.Form{Kind: foSeq}, l} }

func call(l ...tree) tree { return tree{api.Form{Kind: foCall}, l} }

func prim(op int, l ...tree) tree { return tree{api.Form{Kind: foPrim, N: op}, l} }

func kind(k uint8, l ...tree) tree { return tree{api.Form{Kind: k}, l} }

func nums(n int) []tree {
	l := make([]tree, n)
	for i := range l {
		l[i] = num(i)
	}
	return l
}

// put appends a tree's forms, parts first.
func put(l *[]api.Form, t tree) int {
	f := t.form
	for _, x := range t.parts {
		f.L = append(f.L, put(l, x))
	}
	*l = append(*l, f)
	return len(*l) - 1
}

func forms(trees ...tree) ([]api.Form, []int) {
	var l []api.Form
	var tops []int
	for _, t := range trees {
		tops = append(tops, put(&l, t))
	}
	return l, tops
}

// ops are the names that instructions have here, by their numbers.
func ops() []string {
	return []string{"", "word", "local", "name", "set", "setname", "def", "push", "jump", "not", "fn", "prim", "call", "tail", "cc", "cctail", "ret"}
}

// parse is blocks that are written as "many: instruction; instruction | many: .."
func parse(s string) []api.Block {
	var l []api.Block
	for _, b := range strings.Split(s, "|") {
		many, rest, _ := strings.Cut(b, ":")
		n, _ := strconv.Atoi(strings.TrimSpace(many))
		block := api.Block{Many: n}
		for _, x := range strings.Split(rest, ";") {
			block.L = append(block.L, instruction(strings.Fields(x)))
		}
		l = append(l, block)
	}
	return l
}

func instruction(l []string) api.Ins {
	x := api.Ins{Op: uint8(slices.Index(ops(), l[0]))}
	for i, s := range l[1:] {
		n, _ := strconv.Atoi(s)
		switch {
		case l[0] == "word":
			x.W = api.Word(n)
		case i == 0:
			x.A = n
		default:
			x.B = n
		}
	}
	return x
}

func sameBlocks(a, b []api.Block) bool {
	return slices.EqualFunc(a, b, func(x, y api.Block) bool {
		return x.Many == y.Many && slices.Equal(x.L, y.L)
	})
}

func copyForms(l []api.Form) []api.Form {
	l = slices.Clone(l)
	for i, f := range l {
		l[i].L, l[i].P = slices.Clone(f.L), slices.Clone(f.P)
	}
	return l
}

func sameForms(a, b []api.Form) bool {
	return slices.EqualFunc(a, b, func(x, y api.Form) bool {
		return x.Kind == y.Kind && x.At == y.At && x.N == y.N && x.A == y.A && x.S == y.S && x.W == y.W && slices.Equal(x.P, y.P) && slices.Equal(x.L, y.L)
	})
}

// generate asks twice, and sees that the arguments stay as they are.
func generate(t *testing.T, l []api.Form, tops []int) ([]api.Block, api.Errno) {
	t.Helper()
	formsBefore, topsBefore := copyForms(l), slices.Clone(tops)
	b, e := gen.Gen(l, tops)
	again, alsoE := gen.Gen(l, tops)
	if !sameForms(l, formsBefore) || !slices.Equal(tops, topsBefore) {
		t.Errorf("Gen changes %v, %v to %v, %v", formsBefore, topsBefore, l, tops)
	}
	if !sameBlocks(b, again) || e != alsoE {
		t.Errorf("Gen of %v, %v is %v, %d and then %v, %d", l, tops, b, e, again, alsoE)
	}
	return b, e
}

func becomes(t *testing.T, l []api.Form, tops []int, want []api.Block) {
	t.Helper()
	b, e := generate(t, l, tops)
	if e != okay || !sameBlocks(b, want) {
		t.Errorf("Gen of %v, %v is\n%v, %d, not\n%v", l, tops, b, e, want)
	}
	if _, _, e := code.Check(b); e != okay {
		t.Errorf("Gen of %v, %v is %v, which is not valid", l, tops, b)
	}
}

// is asks for the blocks of trees that are the tops.
func is(t *testing.T, want string, trees ...tree) {
	t.Helper()
	l, tops := forms(trees...)
	becomes(t, l, tops, parse(want))
}

// textIs asks for the blocks of a text.
func textIs(t *testing.T, s, want string) {
	t.Helper()
	l, tops := resolve(t, s)
	becomes(t, l, tops, parse(want))
}

func resolve(t *testing.T, s string) ([]api.Form, []int) {
	t.Helper()
	d, tops, at, e := read.Read(s)
	if e != okay {
		t.Fatal(s, at, e)
	}
	l, own, at, e := expand.Expand(d, tops)
	if e != okay {
		t.Fatal(s, at, e)
	}
	l, own, at, e = scope.Scope(d, l, own, names.New())
	if e != okay {
		t.Fatal(s, at, e)
	}
	return l, own
}

func refused(t *testing.T, l []api.Form, tops []int) {
	t.Helper()
	if b, e := generate(t, l, tops); e != errArg || len(b) != 0 {
		t.Errorf("Gen of %v, %v is %v, %d", l, tops, b, e)
	}
}

func accepted(t *testing.T, l []api.Form, tops []int) {
	t.Helper()
	if b, e := generate(t, l, tops); e != okay || len(b) == 0 {
		t.Errorf("Gen of %v, %v is %v, %d", l, tops, b, e)
	}
}

// wrong asks that a tree is refused as a top, among others, as a part of each kind, and, if it is wrong by itself, as one that is neither a part nor a top.
func wrong(t *testing.T, x tree, byItself bool) {
	t.Helper()
	one := num(1)
	for _, l := range [][]tree{
		{x}, {one, x}, {x, one}, {one, x, one},
		{choose(x, one, one)}, {choose(one, x, one)}, {choose(one, one, x)}, {choose(one, one, x), one},
		{fn(0, x)}, {fn(2, fn(1, x))}, {set(0, 0, x)}, {set(-1, 0, x)}, {def(0, x)},
		{seq(x)}, {seq(x, one)}, {seq(one, x)},
		{call(x)}, {call(x, one)}, {call(one, x)}, {call(one, x), one},
		{prim(isNot, x)}, {prim(add, x, one)}, {prim(add, one, x)}, {prim(callCC, x)}, {prim(callCC, x), one},
	} {
		f, tops := forms(l...)
		refused(t, f, tops)
	}
	l, tops := forms(one, x, one)
	tops = slices.Delete(tops, 1, 2)
	if byItself {
		refused(t, l, tops)
		return
	}
	becomes(t, l, tops, parse("0: word 8; word 8; ret"))
}

// right asks that a tree is taken as a top, as a part, and as neither.
func right(t *testing.T, x tree) {
	t.Helper()
	one := num(1)
	for _, l := range [][]tree{{x}, {x, one}, {fn(0, x)}, {choose(one, x, one)}, {call(one, x)}, {prim(callCC, x)}} {
		f, tops := forms(l...)
		accepted(t, f, tops)
		becomes(t, f, nil, parse("0: word 26; ret"))
	}
}

func TestP12_1_Kinds(t *testing.T) {
	for k := range 256 {
		for many := range 5 {
			x := kind(uint8(k), nums(many)...)
			if k < foName || k > foConst {
				wrong(t, x, true)
				x.form.N = add
				wrong(t, x, true)
			}
		}
	}
	for _, k := range []uint8{foInt, foBool, foQuote, 0, 14, 255} {
		x := tree{form: api.Form{Kind: k, N: 1, W: 8, S: "a"}}
		wrong(t, x, true)
		wrong(t, call(x, num(1)), true)
	}
}

// fits tells whether a form of a kind may have so many parts; of an FoPrim, see below.
func fits(k uint8, many int) bool {
	switch k {
	case foConst, foLocal, foName:
		return many == 0
	case foFn, foSet, foDef:
		return many == 1
	case foIf:
		return many == 3
	case foCall:
		return many >= 1
	}
	return k == foSeq
}

func TestP12_1_NumbersOfParts(t *testing.T) {
	tried := 0
	for k := uint8(foName); k <= foConst; k++ {
		if k == foPrim {
			continue
		}
		for _, many := range []int{0, 1, 2, 3, 4, 5, 6, 100, 300} {
			x := kind(k, nums(many)...)
			if fits(k, many) {
				right(t, x)
				continue
			}
			wrong(t, x, true)
			tried++
		}
	}
	if tried < 50 {
		t.Error(tried)
	}
}

func TestP12_1_NumbersOfArguments(t *testing.T) {
	if len(arguments()) != time {
		t.Fatal(len(arguments()))
	}
	for op := -3; op < pastAt+5; op++ {
		for many := range 6 {
			x := prim(op, nums(many)...)
			if op > 0 && op < pastAt && arguments()[op-1] == many {
				right(t, x)
				continue
			}
			wrong(t, x, true)
		}
	}
	for _, op := range []int{math.MinInt, math.MaxInt, 1 << 8, 1<<8 + add, 1<<16 + isNot, 1<<32 + time, -1 << 32, -time, -add} {
		for many := range 3 {
			wrong(t, prim(op, nums(many)...), true)
		}
	}
}

func TestP12_1_IndicesOfParts(t *testing.T) {
	one := api.Form{Kind: foConst, W: 8}
	holders := []api.Form{
		{Kind: foIf, L: []int{0, 1, 2}}, {Kind: foFn, L: []int{2}}, {Kind: foSet, L: []int{2}}, {Kind: foDef, L: []int{2}},
		{Kind: foSeq, L: []int{0, 1, 2}}, {Kind: foCall, L: []int{0, 1, 2}},
		{Kind: foPrim, N: isNot, L: []int{2}}, {Kind: foPrim, N: add, L: []int{1, 2}}, {Kind: foPrim, N: callCC, L: []int{1}},
	}
	for _, f := range holders {
		for i := range f.L {
			for _, k := range []int{3, 4, 5, 6, 7, 100, -1, -2, -3, 1 << 32, math.MinInt, math.MaxInt} {
				g := f
				g.L = slices.Clone(f.L)
				// The form is number 3 of six.
				l := []api.Form{one, one, one, g, one, one}
				for _, tops := range [][]int{{3}, nil, {5}} {
					accepted(t, l, tops)
				}
				g.L[i] = k
				for _, tops := range [][]int{{3}, nil, {5}} {
					refused(t, l, tops)
				}
			}
		}
	}
	refused(t, []api.Form{{Kind: foSeq, L: []int{0}}}, nil)
	refused(t, []api.Form{{Kind: foSeq, L: []int{0}}}, []int{0})
	refused(t, []api.Form{{Kind: foSeq, L: []int{1}}, {Kind: foSeq, L: []int{0}}}, []int{1})
	// The parts may come in any order, as long as they are ahead of their form.
	becomes(t, []api.Form{one, {Kind: foName, N: 7}, {Kind: foLocal, N: 5}, {Kind: foIf, L: []int{2, 0, 1}}}, []int{3}, parse("0: local 0 5; not 4; word 8; ret; name 7; ret"))
	becomes(t, []api.Form{{Kind: foName, N: 7}, one, {Kind: foPrim, N: add, L: []int{1, 0}}, {Kind: foSeq}, {Kind: foSeq, L: []int{3, 2}}}, []int{4}, parse("0: word 26; word 8; push; name 7; push; prim 1 2; ret"))
}

func TestP12_1_PartsTwice(t *testing.T) {
	one := api.Form{Kind: foConst, W: 8}
	for _, f := range []api.Form{
		{Kind: foIf, L: []int{0, 0, 1}}, {Kind: foIf, L: []int{0, 1, 0}}, {Kind: foIf, L: []int{1, 0, 0}}, {Kind: foIf, L: []int{2, 2, 2}},
		{Kind: foSeq, L: []int{0, 0}}, {Kind: foSeq, L: []int{0, 1, 2, 0}}, {Kind: foCall, L: []int{1, 1}}, {Kind: foCall, L: []int{0, 1, 2, 1}},
		{Kind: foPrim, N: add, L: []int{0, 0}},
	} {
		l := []api.Form{one, one, one, f}
		refused(t, l, []int{3})
		refused(t, l, nil)
		refused(t, l, []int{2})
	}
	// In two forms, of which neither, one, or both are tops, or of which one is within the other.
	for _, f := range []api.Form{{Kind: foFn, L: []int{1}}, {Kind: foSeq, L: []int{0, 1}}, {Kind: foIf, L: []int{0, 1, 2}}, {Kind: foCall, L: []int{1}}, {Kind: foPrim, N: callCC, L: []int{1}}} {
		for _, g := range []api.Form{{Kind: foDef, L: []int{1}}, {Kind: foSet, L: []int{1}}, {Kind: foCall, L: []int{3, 1}}, {Kind: foPrim, N: cons, L: []int{1, 3}}, {Kind: foSeq, L: []int{1}}} {
			for _, tops := range [][]int{nil, {4}, {3}, {3, 4}} {
				l := []api.Form{one, one, one, f, g}
				refused(t, l, tops)
			}
		}
	}
	accepted(t, []api.Form{one, one, {Kind: foSeq, L: []int{0}}, {Kind: foSeq, L: []int{1}}}, []int{2, 3})
	refused(t, []api.Form{one, one, {Kind: foSeq, L: []int{0}}, {Kind: foSeq, L: []int{0}}}, []int{2, 3})
}

func TestP12_1_PartsInTops(t *testing.T) {
	one := api.Form{Kind: foConst, W: 8}
	for _, f := range []api.Form{
		{Kind: foIf, L: []int{0, 1, 2}}, {Kind: foSeq, L: []int{0, 1, 2}}, {Kind: foCall, L: []int{2, 1, 0}},
	} {
		l := []api.Form{one, one, one, f}
		accepted(t, l, []int{3})
		accepted(t, l, nil)
		for i := range 3 {
			refused(t, l, []int{i})
			refused(t, l, []int{i, 3})
			refused(t, l, []int{3, i})
		}
	}
	for _, f := range []api.Form{{Kind: foFn, L: []int{1}}, {Kind: foSet, L: []int{1}}, {Kind: foDef, L: []int{1}}, {Kind: foPrim, N: isNot, L: []int{1}}, {Kind: foPrim, N: callCC, L: []int{1}}} {
		l := []api.Form{one, one, f}
		accepted(t, l, []int{2, 0})
		accepted(t, l, []int{0, 2})
		accepted(t, l, []int{0})
		refused(t, l, []int{2, 1})
		refused(t, l, []int{1, 2})
		refused(t, l, []int{0, 1})
		refused(t, l, []int{1})
	}
	// The part of a part.
	l, tops := forms(seq(seq(num(1))))
	refused(t, l, append(tops, 0))
	refused(t, l, append(tops, 1))
}

func TestP12_1_TopsTwice(t *testing.T) {
	l, _ := forms(num(1), num(2), num(3))
	accepted(t, l, []int{0, 1, 2})
	for _, tops := range [][]int{{0, 0}, {0, 1, 0}, {2, 2}, {1, 2, 0, 1}, {0, 1, 2, 2}, {1, 1, 1}} {
		refused(t, l, tops)
	}
	l, tops := forms(call(num(1), num(2)))
	refused(t, l, append(tops, tops[0]))
}

func TestP12_1_TopsThatAreNone(t *testing.T) {
	l, _ := forms(num(1), num(2), num(3))
	for _, i := range []int{3, 4, 100, -1, -2, -3, 1 << 32, math.MinInt, math.MaxInt} {
		for _, tops := range [][]int{{i}, {0, i}, {i, 0}, {0, 1, 2, i}, {0, i, 1}} {
			refused(t, l, tops)
		}
	}
	for _, i := range []int{0, 1, -1, math.MinInt, math.MaxInt} {
		refused(t, nil, []int{i})
		refused(t, []api.Form{}, []int{i})
	}
}

func TestP12_1_Constants(t *testing.T) {
	valid := []api.Word{0, 8, 1<<64 - 8, greatest << 3, 1<<64 - greatest<<3, 2, 10, 18, 26, 3, 11, greatest<<3 | 3, 4, 12, greatest<<3 | 4}
	for _, w := range valid {
		right(t, word(w))
		l, tops := forms(word(w))
		becomes(t, l, tops, []api.Block{{L: []api.Ins{{Op: 1, W: w}, {Op: 16}}}})
	}
	addresses := []api.Word{1, 9, 17, 1<<16<<3 | 1, greatest<<3 | 1}
	invalid := []api.Word{
		1 << 43, 1<<64 - 1<<43, 1 << 63, 1 << 62, // numbers that are too great
		34, 42, 1<<43 | 2, 1<<64 - 6, // marks that there are none of
		1<<43 | 1, 1<<63 | 1, 1<<64 - 7, 1<<43 | 3, 1<<64 - 5, 1<<43 | 4, 1<<64 - 4, // places, names and handles that are too great
		5, 6, 7, 13, 14, 15, 1<<64 - 3, 1<<64 - 2, 1<<64 - 1, // kinds that there are none of
	}
	for _, w := range slices.Concat(addresses, invalid) {
		wrong(t, word(w), false)
	}
}

func TestP12_1_NumbersThatAreNegative(t *testing.T) {
	for _, n := range []int{-1, -2, -100, -1 << 32, math.MinInt} {
		wrong(t, local(n, 0), false)
		wrong(t, local(0, n), false)
		wrong(t, local(n, n), false)
		wrong(t, name(n), false)
		wrong(t, def(n, num(1)), false)
		wrong(t, set(0, n, num(1)), false)
		wrong(t, set(5, n, num(1)), false)
		wrong(t, set(-1, n, num(1)), false)
		wrong(t, set(n, n, num(1)), false)
		wrong(t, fn(n, num(1)), false)
		// A negative A of an FoSet says that it is a name of the program that is set.
		is(t, "0: word 8; setname 3; ret", set(n, 3, num(1)))
	}
	for _, n := range []int{0, 1, 2, 255, 256, 4095, 1 << 16, 1 << 40, math.MaxInt} {
		right(t, local(n, 0))
		right(t, local(0, n))
		right(t, local(n, n))
		right(t, name(n))
		right(t, def(n, num(1)))
		right(t, set(n, 0, num(1)))
		right(t, set(0, n, num(1)))
		right(t, set(-1, n, num(1)))
		m := strconv.Itoa(n)
		is(t, "0: local "+m+" 3; local 4 "+m+"; name "+m+"; word 8; def "+m+"; word 8; setname "+m+"; word 8; set "+m+" 3; word 8; set 4 "+m+"; ret", local(n, 3), local(4, n), name(n), def(n, num(1)), set(-1, n, num(1)), set(n, 3, num(1)), set(4, n, num(1)))
	}
}

func TestP12_1_Parameters(t *testing.T) {
	for _, n := range []int{0, 1, 2, 50, mostMany - 1, mostMany} {
		right(t, fn(n, num(1)))
		is(t, "0: fn 1; ret | "+strconv.Itoa(n)+": word 8; ret", fn(n, num(1)))
	}
	for _, n := range []int{mostMany + 1, mostMany + 2, 255, 256, 1 << 32, math.MaxInt} {
		wrong(t, fn(n, num(1)), false)
	}
}

// What is neither a top nor a part of one gives no code, but is checked as a form.
func TestP12_1_FormsThatAreNotReached(t *testing.T) {
	loose := []tree{num(5), word(9), local(-1, -1), name(-1), fn(mostMany+1, word(1)), fn(-1, num(1)), set(0, -1, num(1)), def(-1, word(7)), call(word(6)), seq(), prim(callCC, name(-2)), choose(fn(1, num(1)), fn(2, num(2)), fn(3, num(3)))}
	for _, x := range loose {
		l, tops := forms(x, fn(1, num(1)), x)
		becomes(t, l, tops[1:2], parse("0: fn 1; ret | 1: word 8; ret"))
		becomes(t, l, nil, parse("0: word 26; ret"))
	}
	l, _ := forms(loose...)
	becomes(t, l, nil, parse("0: word 26; ret"))
	for _, x := range []tree{kind(foInt), kind(foIf), kind(foSet), kind(foCall), prim(add, num(1)), prim(pastAt), prim(0), kind(0)} {
		l, tops := forms(num(1), x)
		refused(t, l, tops[:1])
		refused(t, l, nil)
	}
}

// What a form's kind does not have is not asked for.
func TestP12_1_FieldsThatAFormDoesNotHave(t *testing.T) {
	filled := func(x tree) tree {
		f := api.Form{Kind: x.form.Kind, At: -7, N: -5, A: -3, S: "s", P: []string{"p", "", "p"}, W: 9}
		switch f.Kind {
		case foConst:
			f.W = x.form.W
		case foName, foDef, foFn, foPrim:
			f.N = x.form.N
		case foLocal, foSet:
			f.A, f.N = x.form.A, x.form.N
		}
		return tree{f, x.parts}
	}
	is(t, "0: word 16; local 1 2; name 3; ret", filled(num(2)), filled(local(1, 2)), filled(name(3)))
	is(t, "0: word 8; not 4; word 0; ret; word 16; ret", filled(choose(num(1), num(0), num(2))))
	is(t, "0: fn 1; ret | 2: word 8; ret", filled(fn(2, num(1))))
	is(t, "0: word 8; set 1 2; word 8; setname 3; word 8; def 4; ret", filled(set(1, 2, num(1))), filled(set(-9, 3, num(1))), filled(def(4, num(1))))
	is(t, "0: word 26; word 8; push; name 1; tail 1", filled(seq()), filled(call(name(1), num(1))))
	is(t, "0: word 8; push; prim 9 1; word 8; cctail", filled(prim(isNot, num(1))), filled(prim(callCC, num(1))))
}

func TestP12_1_NilAndEmpty(t *testing.T) {
	for _, l := range [][]api.Form{nil, {}, {{Kind: foSeq}}, {{Kind: foSeq, L: []int{}}}} {
		for _, tops := range [][]int{nil, {}} {
			becomes(t, l, tops, parse("0: word 26; ret"))
		}
	}
	becomes(t, []api.Form{{Kind: foSeq, L: []int{}}, {Kind: foConst, L: []int{}, P: []string{}}}, []int{1, 0}, parse("0: word 0; word 26; ret"))
	b, e := gen.Gen([]api.Form{{}}, nil)
	if len(b) != 0 || e != errArg {
		t.Error(b, e)
	}
}

// What lies beyond a row's length is not read, and not changed.
func TestP12_1_BeyondTheLength(t *testing.T) {
	parts, tops := []int{0, 1, 99, -1}, []int{2, 2, 1, 77}
	l := []api.Form{{Kind: foConst, W: 8}, {Kind: foConst, W: 16}, {Kind: foSeq, L: parts[:2]}, {Kind: foInt}, {Kind: foIf}}
	becomes(t, l[:3], tops[:1], parse("0: word 8; word 16; ret"))
	refused(t, l[:4], tops[:1])
	refused(t, l[:3], tops[:2])
	refused(t, l[:2], tops[:1])
	l[2].Kind = foCall
	becomes(t, l[:3], tops[:1], parse("0: word 16; push; word 8; tail 1"))
	l[2] = api.Form{Kind: foPrim, N: add, L: parts[:2]}
	becomes(t, l[:3], tops[:1], parse("0: word 8; push; word 16; push; prim 1 2; ret"))
	l[2].L = parts[:1]
	refused(t, l[:3], tops[:1])
	if !slices.Equal(parts, []int{0, 1, 99, -1}) || !slices.Equal(tops, []int{2, 2, 1, 77}) || l[3].Kind != foInt || l[4].Kind != foIf {
		t.Error(parts, tops, l)
	}
}

// What is answered is new memory, and what is given is not kept.
func TestP12_1_AnswersAreNew(t *testing.T) {
	want := parse("0: fn 1; push; fn 2; push; name 0; call 2; word 8; ret | 1: word 8; ret | 1: word 16; ret")
	l, tops := forms(call(name(0), fn(1, num(1)), fn(1, num(2))), num(1))
	first, _ := gen.Gen(l, tops)
	second, _ := gen.Gen(l, tops)
	for i := range first {
		for k := range first[i].L {
			first[i].L[k] = api.Ins{Op: 99, A: i, B: k, W: 7}
		}
		more := append(first[i].L, api.Ins{Op: 98}, api.Ins{Op: 97})
		more = more[:cap(more)]
		for k := range more {
			more[k].A = -5
		}
		if !sameBlocks(first[i+1:], want[i+1:]) {
			t.Error(i, first)
		}
	}
	_ = append(first[:1], api.Block{Many: 55})
	if !sameBlocks(second, want) {
		t.Error(second)
	}
	for i := range l {
		clear(l[i].L)
		l[i] = api.Form{Kind: foConst, W: 80}
	}
	clear(tops)
	if !sameBlocks(second, want) {
		t.Error(second)
	}
	becomes(t, l, tops[:1], parse("0: word 80; ret"))
}

// An answer does not hang on the calls before it.
func TestP12_1_EachCallIsItsOwn(t *testing.T) {
	for range 3 {
		is(t, "0: fn 1; ret | 0: fn 2; ret | 0: word 8; ret", fn(0, fn(0, num(1))))
		wrong(t, fn(0, fn(-1, num(1))), false)
		is(t, "0: fn 1; ret | 0: word 8; ret", fn(0, num(1)))
		is(t, "0: word 26; ret")
	}
}

func TestP12_2_TheExample(t *testing.T) {
	is(t, "0: name 0; not 4; word 8; ret; word 16; ret", choose(name(0), num(1), num(2)))
	textIs(t, "(if x 1 2) (define x 3)", "0: name 0; not 4; word 8; jump 5; word 16; word 24; def 0; ret")
	textIs(t, "(define x 3) (if x 1 2)", "0: word 24; def 0; name 0; not 6; word 8; ret; word 16; ret")
}

func TestP12_2_Tops(t *testing.T) {
	is(t, "0: word 26; ret")
	is(t, "0: word 8; ret", num(1))
	is(t, "0: word 8; word 16; word 24; ret", num(1), num(2), num(3))
	textIs(t, "", "0: word 26; ret")
	textIs(t, "1 #t #f", "0: word 8; word 18; word 10; ret")
	// They are in tail position if nothing follows.
	is(t, "0: name 0; tail 0", call(name(0)))
	is(t, "0: name 0; call 0; name 1; tail 0", call(name(0)), call(name(1)))
	is(t, "0: name 0; call 0; name 1; tail 0", seq(call(name(0)), call(name(1))))
	is(t, "0: name 0; call 0; name 1; tail 0", call(name(0)), seq(call(name(1))))
	is(t, "0: name 0; cc; name 1; cctail", prim(callCC, name(0)), prim(callCC, name(1)))
	// They come in the order of tops, not in that of the forms.
	l, _ := forms(num(1), fn(0, num(2)), call(name(0)), fn(1, num(3)))
	becomes(t, l, []int{6, 4, 0, 2}, parse("0: fn 1; name 0; call 0; word 8; fn 2; ret | 1: word 24; ret | 0: word 16; ret"))
	becomes(t, l, []int{2, 4}, parse("0: fn 1; name 0; tail 0 | 0: word 16; ret"))
	becomes(t, l, []int{4}, parse("0: name 0; tail 0"))
}

func TestP12_2_ConstantsPlacesAndNames(t *testing.T) {
	is(t, "0: word 40; ret", num(5))
	is(t, "0: local 2 3; ret", local(2, 3))
	is(t, "0: name 6; ret", name(6))
	is(t, "0: word 40; local 2 3; name 6; word 2; local 0 0; name 0; ret", num(5), local(2, 3), name(6), word(2), local(0, 0), name(0))
	textIs(t, "5 'a '() 'b 'a", "0: word 40; word 3; word 2; word 11; word 3; ret")
	textIs(t, "-1", "0: word -8; ret")
	textIs(t, "(define a 1) (define b a) b", "0: word 8; def 0; name 0; def 1; name 1; ret")
	textIs(t, "(lambda (x y) x) (lambda (x y) y)", "0: fn 1; fn 2; ret | 2: local 0 0; ret | 2: local 0 1; ret")
	textIs(t, "(lambda (x) (lambda (y z) (lambda () (+ x z))))", "0: fn 1; ret | 1: fn 2; ret | 2: fn 3; ret | 0: local 2 0; push; local 1 1; push; prim 1 2; ret")
}

func TestP12_2_ChoicesInTailPosition(t *testing.T) {
	is(t, "0: word 8; not 4; word 16; ret; word 24; ret", choose(num(1), num(2), num(3)))
	is(t, "0: word 8; not 4; name 0; tail 0; name 1; tail 0", choose(num(1), call(name(0)), call(name(1))))
	is(t, "0: word 8; not 4; name 0; cctail; name 1; cctail", choose(num(1), prim(callCC, name(0)), prim(callCC, name(1))))
	is(t, "0: word 8; not 4; word 26; ret; word 26; ret", choose(num(1), seq(), seq()))
	// What is asked is not in tail position.
	is(t, "0: name 0; call 0; not 5; word 16; ret; word 24; ret", choose(call(name(0)), num(2), num(3)))
	is(t, "0: word 8; not 4; word 16; jump 5; word 24; not 8; word 32; ret; word 40; ret", choose(choose(num(1), num(2), num(3)), num(4), num(5)))
	is(t, "0: word 8; not 8; word 16; not 6; word 24; ret; word 32; ret; word 40; ret", choose(num(1), choose(num(2), num(3), num(4)), num(5)))
	is(t, "0: word 8; not 4; word 16; ret; word 24; not 8; word 32; ret; word 40; ret", choose(num(1), num(2), choose(num(3), num(4), num(5))))
	is(t, "0: word 8; not 6; name 0; call 0; word 16; ret; word 26; ret", choose(num(1), seq(call(name(0)), num(2)), seq()))
	// Each block counts its own instructions.
	is(t, "0: word 0; word 0; fn 1; ret | 1: local 0 0; not 4; word 8; ret; word 16; ret", num(0), num(0), fn(1, choose(local(0, 0), num(1), num(2))))
	is(t, "0: word 8; not 4; fn 1; ret; fn 2; ret | 0: word 16; not 4; word 24; ret; word 32; ret | 0: word 40; ret", choose(num(1), fn(0, choose(num(2), num(3), num(4))), fn(0, num(5))))
}

func TestP12_2_ChoicesThatAreParts(t *testing.T) {
	is(t, "0: word 8; not 4; word 16; jump 5; word 24; def 0; ret", def(0, choose(num(1), num(2), num(3))))
	is(t, "0: word 8; not 4; word 16; jump 5; word 24; word 32; ret", choose(num(1), num(2), num(3)), num(4))
	is(t, "0: word 8; not 5; name 0; call 0; jump 7; name 1; call 0; word 32; ret", choose(num(1), call(name(0)), call(name(1))), num(4))
	is(t, "0: word 8; not 5; name 0; cc; jump 7; name 1; cc; push; prim 9 1; ret", prim(isNot, choose(num(1), prim(callCC, name(0)), prim(callCC, name(1)))))
	is(t, "0: word 8; not 4; word 16; jump 5; word 24; not 8; word 32; jump 9; word 40; set 0 1; ret", set(0, 1, choose(choose(num(1), num(2), num(3)), num(4), num(5))))
	is(t, "0: word 8; not 8; word 16; not 6; word 24; jump 7; word 32; jump 9; word 40; setname 0; ret", set(-1, 0, choose(num(1), choose(num(2), num(3), num(4)), num(5))))
	is(t, "0: word 8; not 4; word 16; jump 9; word 24; not 8; word 32; jump 9; word 40; def 2; ret", def(2, choose(num(1), num(2), choose(num(3), num(4), num(5)))))
	is(t, "0: word 8; not 4; word 26; jump 5; word 26; cctail", prim(callCC, choose(num(1), seq(), seq())))
	is(t, "0: word 8; not 4; word 16; jump 5; word 24; push; word 32; not 10; word 40; jump 11; word 48; tail 1", call(choose(num(4), num(5), num(6)), choose(num(1), num(2), num(3))))
	textIs(t, "(+ (if #t 1 2) (if #f 3 4))", "0: word 18; not 4; word 8; jump 5; word 16; push; word 10; not 10; word 24; jump 11; word 32; push; prim 1 2; ret")
	textIs(t, "(lambda (x) (and x (or x 1)) 2)", "0: fn 1; ret | 1: local 0 0; not 7; local 0 0; push; fn 2; call 1; jump 8; word 10; word 16; ret | 1: local 0 0; not 4; local 0 0; ret; word 8; ret")
}

func TestP12_2_Functions(t *testing.T) {
	is(t, "0: fn 1; ret | 0: word 8; ret", fn(0, num(1)))
	is(t, "0: fn 1; word 16; ret | 3: word 8; ret", fn(3, num(1)), num(2))
	is(t, "0: fn 1; ret | 0: name 0; tail 0", fn(0, call(name(0))))
	is(t, "0: fn 1; ret | 0: name 0; call 0; word 8; ret", fn(0, seq(call(name(0)), num(1))))
	is(t, "0: fn 1; ret | 1: word 26; ret", fn(1, seq()))
	// One within another: in the order in which they are reached.
	is(t, "0: fn 1; ret | 1: fn 2; ret | 2: fn 3; ret | 3: word 8; ret", fn(1, fn(2, fn(3, num(1)))))
	// Beside each other: those within the first come ahead of the second.
	is(t, "0: fn 1; fn 2; fn 3; ret | 1: word 8; ret | 2: word 16; ret | 3: word 24; ret", fn(1, num(1)), fn(2, num(2)), fn(3, num(3)))
	is(t, "0: fn 1; fn 3; ret | 1: fn 2; ret | 2: word 8; ret | 3: fn 4; ret | 4: word 16; ret", fn(1, fn(2, num(1))), fn(3, fn(4, num(2))))
	is(t, "0: fn 1; fn 5; ret | 1: fn 2; fn 3; fn 4; ret | 2: word 8; ret | 3: word 16; ret | 4: word 24; ret | 5: word 32; ret", fn(1, seq(fn(2, num(1)), fn(3, num(2)), fn(4, num(3)))), fn(5, num(4)))
	is(t, "0: fn 1; not 4; fn 2; ret; fn 3; ret | 1: word 8; ret | 2: word 16; ret | 3: word 24; ret", choose(fn(1, num(1)), fn(2, num(2)), fn(3, num(3))))
	is(t, "0: fn 1; push; fn 3; push; prim 12 2; ret | 1: fn 2; ret | 2: word 8; ret | 3: word 16; ret", prim(cons, fn(1, fn(2, num(1))), fn(3, num(2))))
	// The first part of a call comes last.
	is(t, "0: fn 1; push; fn 3; push; fn 4; tail 2 | 1: fn 2; ret | 2: word 8; ret | 3: word 16; ret | 4: fn 5; ret | 5: word 24; ret", call(fn(4, fn(5, num(3))), fn(1, fn(2, num(1))), fn(3, num(2))))
	textIs(t, "(let ((f (lambda () 1))) (lambda () f))", "0: fn 1; push; fn 2; tail 1 | 0: word 8; ret | 1: fn 3; ret | 0: local 1 0; ret")
	textIs(t, "(define (f x) (lambda () x)) (define (g) (f 1)) ((g))", "0: fn 1; def 0; fn 3; def 1; name 1; call 0; tail 0 | 1: fn 2; ret | 0: local 1 0; ret | 0: word 8; push; name 0; tail 1")
}

func TestP12_2_SetAndDefine(t *testing.T) {
	is(t, "0: word 8; set 2 3; ret", set(2, 3, num(1)))
	is(t, "0: word 8; set 0 0; ret", set(0, 0, num(1)))
	is(t, "0: word 8; setname 3; ret", set(-1, 3, num(1)))
	is(t, "0: word 8; def 3; ret", def(3, num(1)))
	is(t, "0: word 8; set 1 2; word 16; setname 3; word 24; def 4; word 32; ret", set(1, 2, num(1)), set(-1, 3, num(2)), def(4, num(3)), num(4))
	// Their parts are not in tail position.
	for _, x := range []struct {
		of   func(tree) tree
		code string
	}{
		{func(x tree) tree { return set(1, 2, x) }, "set 1 2"},
		{func(x tree) tree { return set(-1, 2, x) }, "setname 2"},
		{func(x tree) tree { return def(2, x) }, "def 2"},
	} {
		is(t, "0: name 0; call 0; "+x.code+"; ret", x.of(call(name(0))))
		is(t, "0: name 0; cc; "+x.code+"; ret", x.of(prim(callCC, name(0))))
		is(t, "0: name 0; word 8; "+x.code+"; ret", x.of(seq(name(0), num(1))))
		is(t, "0: fn 1; "+x.code+"; ret | 1: word 8; "+x.code+"; ret", x.of(fn(1, x.of(num(1)))))
		is(t, "0: word 8; "+x.code+"; "+x.code+"; push; prim 9 1; ret", prim(isNot, x.of(x.of(num(1)))))
	}
	textIs(t, "(define x 1) (set! x 2) (lambda (y) (set! x y) (set! y 3) (lambda () (set! y x)))", "0: word 8; def 0; word 16; setname 0; fn 1; ret | 1: local 0 0; setname 0; word 24; set 0 0; fn 2; ret | 0: name 0; set 1 0; ret")
}

func TestP12_2_Sequences(t *testing.T) {
	is(t, "0: word 26; ret", seq())
	is(t, "0: word 26; word 26; word 26; ret", seq(), seq(), seq())
	is(t, "0: word 8; ret", seq(num(1)))
	is(t, "0: word 8; word 16; word 24; ret", seq(num(1), num(2), num(3)))
	is(t, "0: word 8; word 16; word 24; ret", seq(num(1), seq(num(2), seq(num(3)))))
	is(t, "0: word 8; word 16; word 24; ret", seq(seq(seq(num(1)), num(2)), num(3)))
	is(t, "0: word 26; push; prim 9 1; ret", prim(isNot, seq()))
	is(t, "0: word 8; push; prim 9 1; ret", prim(isNot, seq(num(1))))
	is(t, "0: word 8; word 16; push; prim 9 1; ret", prim(isNot, seq(num(1), num(2))))
	is(t, "0: name 0; call 0; name 1; call 0; push; prim 9 1; ret", prim(isNot, seq(call(name(0)), call(name(1)))))
	is(t, "0: name 0; call 0; name 1; call 0; word 8; ret", seq(call(name(0)), call(name(1))), num(1))
	is(t, "0: name 0; call 0; name 1; call 0; name 2; tail 0", seq(call(name(0)), seq(call(name(1)), call(name(2)))))
	is(t, "0: fn 1; ret | 0: name 0; cc; name 1; cctail", fn(0, seq(prim(callCC, name(0)), prim(callCC, name(1)))))
	is(t, "0: word 8; not 4; word 16; jump 5; word 24; word 32; not 9; word 40; ret; word 48; ret", seq(choose(num(1), num(2), num(3)), choose(num(4), num(5), num(6))))
	is(t, "0: word 26; word 8; ret", seq(seq(), num(1)))
	is(t, "0: word 8; word 26; ret", seq(num(1), seq()))
	textIs(t, "(begin 1 2) (lambda (f) (f) (begin (f) (f)))", "0: word 8; word 16; fn 1; ret | 1: local 0 0; call 0; local 0 0; call 0; local 0 0; tail 0")
}

func TestP12_2_Calls(t *testing.T) {
	is(t, "0: name 0; tail 0", call(name(0)))
	is(t, "0: word 8; push; name 0; tail 1", call(name(0), num(1)))
	is(t, "0: word 8; push; word 16; push; word 24; push; name 0; tail 3", call(name(0), num(1), num(2), num(3)))
	is(t, "0: name 0; call 0; word 0; ret", call(name(0)), num(0))
	is(t, "0: word 8; push; name 0; call 1; word 0; ret", call(name(0), num(1)), num(0))
	is(t, "0: word 8; push; word 16; push; word 24; push; name 0; call 3; word 0; ret", call(name(0), num(1), num(2), num(3)), num(0))
	// Its parts are not in tail position.
	is(t, "0: name 1; call 0; push; name 2; call 0; push; name 0; call 0; tail 2", call(call(name(0)), call(name(1)), call(name(2))))
	is(t, "0: name 1; cc; push; name 0; cc; tail 1", call(prim(callCC, name(0)), prim(callCC, name(1))))
	is(t, "0: word 8; push; name 1; call 1; push; name 0; tail 1", call(name(0), call(name(1), num(1))))
	is(t, "0: word 16; push; word 8; push; name 0; call 1; tail 1", call(call(name(0), num(1)), num(2)))
	is(t, "0: word 8; word 16; push; word 26; push; name 0; name 1; tail 2", call(seq(name(0), name(1)), seq(num(1), num(2)), seq()))
	textIs(t, "(define (f x) (f (f x)))", "0: fn 1; def 0; ret | 1: local 0 0; push; name 0; call 1; push; name 0; tail 1")
	textIs(t, "((lambda (x y) (+ x y)) 1 2) ((lambda () 3))", "0: word 8; push; word 16; push; fn 1; call 2; fn 2; tail 0 | 2: local 0 0; push; local 0 1; push; prim 1 2; ret | 0: word 24; ret")
	textIs(t, "(let ((a 1) (b 2)) (a b))", "0: word 8; push; word 16; push; fn 1; tail 2 | 2: local 0 1; push; local 0 0; tail 1")
	for _, many := range []int{99, 100, 101, 256, 1000} {
		l, tops := forms(call(append([]tree{name(0)}, nums(many)...)...), num(0))
		var want []api.Ins
		for i := range many {
			want = append(want, api.Ins{Op: 1, W: api.Word(i) << 3}, api.Ins{Op: 7})
		}
		want = append(want, api.Ins{Op: 3}, api.Ins{Op: 12, A: many}, api.Ins{Op: 1}, api.Ins{Op: 16})
		becomes(t, l, tops, []api.Block{{L: want}})
		want = append(want[:len(want)-3], api.Ins{Op: 13, A: many})
		becomes(t, l, tops[:1], []api.Block{{L: want}})
	}
}

func TestP12_2_Primitives(t *testing.T) {
	for i, many := range arguments() {
		op := i + 1
		if op == callCC {
			continue
		}
		pushed := []string{"", "word 0; push; ", "word 0; push; word 8; push; "}[many]
		done := "prim " + strconv.Itoa(op) + " " + strconv.Itoa(many)
		is(t, "0: "+pushed+done+"; ret", prim(op, nums(many)...))
		is(t, "0: "+pushed+done+"; word 8; ret", prim(op, nums(many)...), num(1))
		is(t, "0: fn 1; ret | 0: "+pushed+done+"; ret", fn(0, prim(op, nums(many)...)))
		is(t, "0: "+pushed+done+"; tail 0", call(prim(op, nums(many)...)))
	}
	is(t, "0: name 0; call 0; push; name 1; cc; push; prim 1 2; ret", prim(add, call(name(0)), prim(callCC, name(1))))
	textIs(t, "(out (+ (* 2 3) (car (cons 1 '()))))", "0: word 16; push; word 24; push; prim 3 2; push; word 8; push; word 2; push; prim 12 2; push; prim 13 1; push; prim 1 2; push; prim 19 1; ret")
	textIs(t, "'(1 a)", "0: word 8; push; word 3; push; word 2; push; prim 12 2; push; prim 12 2; ret")
	textIs(t, "(after 1 2) (promise) (settle 1 2) (then 1 2) (write 1 2) (read 1) (time)", "0: word 8; push; word 16; push; prim 22 2; prim 24 0; word 8; push; word 16; push; prim 25 2; word 8; push; word 16; push; prim 26 2; word 8; push; word 16; push; prim 28 2; word 8; push; prim 29 1; prim 30 0; ret")
}

func TestP12_2_CallCC(t *testing.T) {
	is(t, "0: name 0; cctail", prim(callCC, name(0)))
	is(t, "0: name 0; cc; word 8; ret", prim(callCC, name(0)), num(1))
	is(t, "0: name 0; call 0; cctail", prim(callCC, call(name(0))))
	is(t, "0: name 0; cc; cctail", prim(callCC, prim(callCC, name(0))))
	is(t, "0: name 0; cc; push; prim 9 1; ret", prim(isNot, prim(callCC, name(0))))
	is(t, "0: word 8; push; name 0; cc; tail 1", call(prim(callCC, name(0)), num(1)))
	is(t, "0: word 8; push; name 0; cc; push; prim 12 2; ret", prim(cons, num(1), prim(callCC, name(0))))
	is(t, "0: word 26; cctail", prim(callCC, seq()))
	is(t, "0: fn 1; cctail | 1: fn 2; cc; word 8; ret | 2: fn 3; cctail | 3: word 0; ret", prim(callCC, fn(1, seq(prim(callCC, fn(2, prim(callCC, fn(3, num(0))))), num(1)))))
	textIs(t, "(+ 1 (call/cc (lambda (k) (k 2)))) (call/cc (lambda (k) 3))", "0: word 8; push; fn 1; cc; push; prim 1 2; fn 2; cctail | 1: word 16; push; local 0 0; tail 1 | 1: word 24; ret")
}

// nested is a form of so many levels, each made of the one within.
func nested(levels int, inner api.Form, of func(i int) []api.Form) ([]api.Form, []int) {
	l := []api.Form{inner}
	for range levels {
		l = append(l, of(len(l)-1)...)
	}
	return l, []int{len(l) - 1}
}

// Forms may be nested deeper than calls can be.
func TestP12_2_DeepForms(t *testing.T) {
	defer debug.SetMaxStack(debug.SetMaxStack(1 << 20))
	const levels = 100000
	one := api.Form{Kind: foConst, W: 8}
	repeat := func(first string, x string, last string) []api.Block {
		b := parse("0: " + first)[0].L
		x1, last1 := parse("0: " + x)[0].L, parse("0: " + last)[0].L
		return []api.Block{{L: slices.Concat(b, slices.Repeat(x1, levels), last1)}}
	}
	single := func(f api.Form) func(int) []api.Form {
		return func(i int) []api.Form {
			g := f
			g.L = []int{i}
			return []api.Form{g}
		}
	}
	for _, x := range []struct {
		of   func(int) []api.Form
		want []api.Block
	}{
		{single(api.Form{Kind: foSeq}), parse("0: word 8; ret")},
		{single(api.Form{Kind: foSet, A: 1, N: 2}), repeat("word 8", "set 1 2", "ret")},
		{single(api.Form{Kind: foDef, N: 2}), repeat("word 8", "def 2", "ret")},
		{single(api.Form{Kind: foPrim, N: isNot}), repeat("word 8", "push; prim 9 1", "ret")},
		{func(i int) []api.Form { return []api.Form{one, {Kind: foSeq, L: []int{i, i + 1}}} }, repeat("word 8", "word 8", "ret")},
		{func(i int) []api.Form { return []api.Form{one, {Kind: foPrim, N: add, L: []int{i, i + 1}}} }, repeat("word 8", "push; word 8; push; prim 1 2", "ret")},
	} {
		l, tops := nested(levels, one, x.of)
		if b, e := gen.Gen(l, tops); e != okay || !sameBlocks(b, x.want) {
			t.Error(l[len(l)-1], len(b), e)
		}
	}
	deepCalls(t, levels, one)
	deepFunctions(t, levels, one)
	deepChoices(t, levels, one)
}

func deepCalls(t *testing.T, levels int, one api.Form) {
	// (((1)))
	l, tops := nested(levels, one, func(i int) []api.Form { return []api.Form{{Kind: foCall, L: []int{i}}} })
	want := slices.Concat(parse("0: word 8")[0].L, slices.Repeat(parse("0: call 0")[0].L, levels-1), parse("0: tail 0")[0].L)
	if b, e := gen.Gen(l, tops); e != okay || !sameBlocks(b, []api.Block{{L: want}}) {
		t.Error(len(b), e)
	}
	// (1 (1 (1 1)))
	l, tops = nested(levels, one, func(i int) []api.Form { return []api.Form{one, {Kind: foCall, L: []int{i + 1, i}}} })
	want = slices.Concat(parse("0: word 8; push; word 8")[0].L, slices.Repeat(parse("0: call 1; push; word 8")[0].L, levels-1), parse("0: tail 1")[0].L)
	if b, e := gen.Gen(l, tops); e != okay || !sameBlocks(b, []api.Block{{L: want}}) {
		t.Error(len(b), e)
	}
	l, tops = nested(levels, one, func(i int) []api.Form { return []api.Form{{Kind: foPrim, N: callCC, L: []int{i}}} })
	want = slices.Concat(parse("0: word 8")[0].L, slices.Repeat(parse("0: cc")[0].L, levels-1), parse("0: cctail")[0].L)
	if b, e := gen.Gen(l, tops); e != okay || !sameBlocks(b, []api.Block{{L: want}}) {
		t.Error(len(b), e)
	}
	// All words are on the stack at once.
	l, tops = nested(levels, one, func(i int) []api.Form { return []api.Form{one, {Kind: foPrim, N: add, L: []int{i + 1, i}}} })
	want = slices.Concat(slices.Repeat(parse("0: word 8; push")[0].L, levels+1), slices.Repeat(parse("0: prim 1 2; push")[0].L, levels))
	want[len(want)-1] = api.Ins{Op: 16}
	if b, e := gen.Gen(l, tops); e != okay || !sameBlocks(b, []api.Block{{L: want}}) {
		t.Error(len(b), e)
	}
}

func deepFunctions(t *testing.T, levels int, one api.Form) {
	l, tops := nested(levels, one, func(i int) []api.Form { return []api.Form{{Kind: foFn, N: i % 7, L: []int{i}}} })
	want := []api.Block{{}}
	for i := range levels {
		last := len(want) - 1
		want[last].L = []api.Ins{{Op: 10, A: i + 1}, {Op: 16}}
		want = append(want, api.Block{Many: (levels - 1 - i) % 7})
	}
	want[levels].L = []api.Ins{{Op: 1, W: 8}, {Op: 16}}
	if b, e := gen.Gen(l, tops); e != okay || !sameBlocks(b, want) {
		t.Error(len(b), e)
	}
}

func deepChoices(t *testing.T, levels int, one api.Form) {
	for place := range 3 {
		l, tops := nested(levels, one, func(i int) []api.Form {
			parts := slices.Insert([]int{i + 1, i + 2}, place, i)
			return []api.Form{one, one, {Kind: foIf, L: parts}}
		})
		b, e := gen.Gen(l, tops)
		if e != okay || len(b) != 1 || !sameBlocks(b, []api.Block{{L: choicesNested(levels, place)}}) {
			t.Error(place, len(b), e)
		}
	}
}

// choicesNested is the code of choices that are nested in one of their places, in tail position.
func choicesNested(levels, place int) []api.Ins {
	one, ret := api.Ins{Op: 1, W: 8}, api.Ins{Op: 16}
	var l []api.Ins
	switch place {
	case 0:
		l = append(l, one)
		for i := range levels - 1 {
			l = append(l, api.Ins{Op: 9, A: 4*i + 4}, one, api.Ins{Op: 8, A: 4*i + 5}, one)
		}
		i := levels - 1
		l = append(l, api.Ins{Op: 9, A: 4*i + 4}, one, ret, one, ret)
	case 1:
		end := 2*levels + 2
		for i := range levels {
			l = append(l, one, api.Ins{Op: 9, A: end + 2*(levels-1-i)})
		}
		l = append(l, slices.Repeat([]api.Ins{one, ret}, levels+1)...)
	case 2:
		for i := range levels {
			l = append(l, one, api.Ins{Op: 9, A: 4*i + 4}, one, ret)
		}
		l = append(l, one, ret)
	}
	return l
}

func TestP12_2_LongRows(t *testing.T) {
	const many = 100000
	l, tops := forms(nums(many)...)
	want := make([]api.Ins, many)
	for i := range want {
		want[i] = api.Ins{Op: 1, W: api.Word(i) << 3}
	}
	want = append(want, api.Ins{Op: 16})
	becomes(t, l, tops, []api.Block{{L: want}})
	l, tops = forms(seq(nums(many)...))
	becomes(t, l, tops, []api.Block{{L: want}})
	functions := make([]tree, many)
	for i := range functions {
		functions[i] = fn(i%5, num(i))
	}
	l, tops = forms(functions...)
	b, e := gen.Gen(l, tops)
	if e != okay || len(b) != many+1 || len(b[0].L) != many+1 {
		t.Fatal(len(b), e)
	}
	for i := range many {
		if b[0].L[i] != (api.Ins{Op: 10, A: i + 1}) || b[i+1].Many != i%5 || !slices.Equal(b[i+1].L, []api.Ins{{Op: 1, W: api.Word(i) << 3}, {Op: 16}}) {
			t.Fatal(i, b[i+1])
		}
	}
}

// The second, slower way: each form's instructions are made as a row of their own, at the index at which it stands.

type slow struct {
	l      []api.Form
	blocks []api.Block
}

func (s *slow) all(l []int, push bool, at int) []api.Ins {
	var row []api.Ins
	for _, i := range l {
		row = append(row, s.code(i, false, at+len(row))...)
		if push {
			row = append(row, api.Ins{Op: 7})
		}
	}
	return row
}

func (s *slow) choice(f api.Form, tail bool, at int) []api.Ins {
	row := s.code(f.L[0], false, at)
	yes := s.code(f.L[1], tail, at+len(row)+1)
	after := at + len(row) + 1 + len(yes)
	if !tail {
		after++
	}
	no := s.code(f.L[2], tail, after)
	row = append(append(row, api.Ins{Op: 9, A: after}), yes...)
	if !tail {
		row = append(row, api.Ins{Op: 8, A: after + len(no)})
	}
	return append(row, no...)
}

func (s *slow) sequence(l []int, tail bool, at int) []api.Ins {
	if len(l) == 0 {
		row := []api.Ins{{Op: 1, W: 26}}
		if tail {
			row = append(row, api.Ins{Op: 16})
		}
		return row
	}
	row := s.all(l[:len(l)-1], false, at)
	return append(row, s.code(l[len(l)-1], tail, at+len(row))...)
}

func (s *slow) call(f api.Form, tail bool, at int) []api.Ins {
	row := s.all(f.L[1:], true, at)
	row = append(row, s.code(f.L[0], false, at+len(row))...)
	if tail {
		return append(row, api.Ins{Op: 13, A: len(f.L) - 1})
	}
	return append(row, api.Ins{Op: 12, A: len(f.L) - 1})
}

func (s *slow) code(i int, tail bool, at int) []api.Ins {
	f := s.l[i]
	var row []api.Ins
	switch f.Kind {
	case foConst:
		row = []api.Ins{{Op: 1, W: f.W}}
	case foLocal:
		row = []api.Ins{{Op: 2, A: f.A, B: f.N}}
	case foName:
		row = []api.Ins{{Op: 3, A: f.N}}
	case foIf:
		return s.choice(f, tail, at)
	case foFn:
		n := len(s.blocks)
		s.blocks = append(s.blocks, api.Block{Many: f.N})
		s.blocks[n].L = append(s.blocks[n].L, s.code(f.L[0], true, 0)...)
		row = []api.Ins{{Op: 10, A: n}}
	case foSet:
		row = append(s.code(f.L[0], false, at), api.Ins{Op: 4, A: f.A, B: f.N})
		if f.A < 0 {
			row[len(row)-1] = api.Ins{Op: 5, A: f.N}
		}
	case foDef:
		row = append(s.code(f.L[0], false, at), api.Ins{Op: 6, A: f.N})
	case foSeq:
		return s.sequence(f.L, tail, at)
	case foCall:
		return s.call(f, tail, at)
	case foPrim:
		if f.N == callCC && tail {
			return append(s.code(f.L[0], false, at), api.Ins{Op: 15})
		}
		if f.N == callCC {
			return append(s.code(f.L[0], false, at), api.Ins{Op: 14})
		}
		row = append(s.all(f.L, true, at), api.Ins{Op: 11, A: f.N, B: len(f.L)})
	}
	if tail {
		row = append(row, api.Ins{Op: 16})
	}
	return row
}

func slowForms(l []api.Form, tops []int) bool {
	times := map[int]int{}
	for i, f := range l {
		switch {
		case f.Kind == foPrim && (f.N < 1 || f.N > time || len(f.L) != arguments()[f.N-1]):
			return false
		case f.Kind != foPrim && (f.Kind < foName || f.Kind > foConst || !fits(f.Kind, len(f.L))):
			return false
		}
		for _, k := range f.L {
			if k < 0 || k >= i {
				return false
			}
			times[k]++
		}
	}
	for _, k := range tops {
		if k < 0 || k >= len(l) {
			return false
		}
		times[k]++
	}
	for _, n := range times {
		if n > 1 {
			return false
		}
	}
	return true
}

func slowGen(l []api.Form, tops []int) ([]api.Block, api.Errno) {
	if !slowForms(l, tops) {
		return nil, errArg
	}
	s := &slow{l: l, blocks: make([]api.Block, 1)}
	first := s.sequence(tops, true, 0)
	s.blocks[0].L = first
	if _, _, e := code.Check(s.blocks); e != okay {
		return nil, errArg
	}
	return s.blocks, okay
}

// compare asks for what the slower way answers.
func compare(t *testing.T, l []api.Form, tops []int) bool {
	t.Helper()
	want, e := slowGen(l, tops)
	if e != okay {
		refused(t, l, tops)
		return false
	}
	becomes(t, l, tops, want)
	return true
}

// All forms of one or two levels, of few kinds, as the only top and ahead of another one.
func TestP12_2_AllSmallFormsAgainstASlowerWay(t *testing.T) {
	leaves := []tree{num(1), local(1, 2), name(3), seq(), prim(promise)}
	level := func(l []tree) []tree {
		var made []tree
		for _, x := range l {
			made = append(made, x, fn(1, x), set(1, 2, x), set(-1, 2, x), def(3, x), seq(x), call(x), prim(isNot, x), prim(callCC, x))
			for _, y := range l {
				made = append(made, seq(x, y), call(x, y), prim(cons, x, y))
			}
			made = append(made, choose(x, l[0], l[1]), choose(l[2], x, l[3]), choose(l[4], l[0], x), choose(x, x, x))
		}
		return made
	}
	some := level(leaves)
	for _, x := range level(some) {
		l, tops := forms(x)
		if !compare(t, l, tops) {
			t.Fatal(x)
		}
		l, tops = forms(x, num(9))
		if !compare(t, l, tops) {
			t.Fatal(x)
		}
		if t.Failed() {
			return
		}
	}
}

// grower makes forms by chance.
type grower struct {
	r *rand.Rand
	l []api.Form
}

func (g *grower) word() api.Word {
	n := api.Word(g.r.Intn(1 << uint(g.r.Intn(40))))
	return []api.Word{n << 3, -(n << 3), n<<3 | 3, n<<3 | 4, 2, 10, 18, 26}[g.r.Intn(8)]
}

func (g *grower) leaf() api.Form {
	return []api.Form{{Kind: foConst, W: g.word()}, {Kind: foLocal, A: g.r.Intn(4), N: g.r.Intn(5)}, {Kind: foName, N: g.r.Intn(9)}, {Kind: foSeq}, {Kind: foPrim, N: promise}, {Kind: foPrim, N: time}}[g.r.Intn(6)]
}

func (g *grower) branch() (api.Form, int) {
	switch g.r.Intn(9) {
	case 0, 1:
		return api.Form{Kind: foIf}, 3
	case 2:
		return api.Form{Kind: foFn, N: g.r.Intn(mostMany + 1)}, 1
	case 3:
		return api.Form{Kind: foSet, A: g.r.Intn(5) - 2, N: g.r.Intn(9)}, 1
	case 4:
		return api.Form{Kind: foDef, N: g.r.Intn(9)}, 1
	case 5:
		return api.Form{Kind: foSeq}, g.r.Intn(4)
	case 6:
		return api.Form{Kind: foCall}, 1 + g.r.Intn(4)
	case 7:
		return api.Form{Kind: foPrim, N: callCC}, 1
	}
	op := 1 + g.r.Intn(time)
	return api.Form{Kind: foPrim, N: op}, arguments()[op-1]
}

// grow makes a form, whose parts come ahead of it in any order.
func (g *grower) grow(deep int) int {
	f := g.leaf()
	if deep > 0 {
		many := 0
		f, many = g.branch()
		f.L = make([]int, many)
		for _, k := range g.r.Perm(many) {
			f.L[k] = g.grow(g.r.Intn(deep))
		}
	}
	g.l = append(g.l, f)
	return len(g.l) - 1
}

func randomForms(r *rand.Rand) ([]api.Form, []int) {
	g := &grower{r: r}
	var tops []int
	for range r.Intn(4) {
		tops = append(tops, g.grow(r.Intn(6)))
		if r.Intn(4) == 0 {
			g.grow(r.Intn(3))
		}
	}
	r.Shuffle(len(tops), func(i, k int) { tops[i], tops[k] = tops[k], tops[i] })
	return g.l, tops
}

// spoil changes something of forms by chance; they may be right nevertheless.
func spoil(r *rand.Rand, l []api.Form, tops []int) []int {
	if len(l) == 0 || r.Intn(10) == 0 {
		return append(tops, r.Intn(len(l)+2)-1)
	}
	i := r.Intn(len(l))
	f := &l[i]
	n := []int{-1, 0, 1, 2, i, i + 1, i - 1, len(l), len(l) - 1, r.Intn(len(l)), callCC, time, pastAt, mostMany, mostMany + 1, math.MinInt, math.MaxInt, r.Intn(40)}[r.Intn(18)]
	switch r.Intn(9) {
	case 0:
		f.Kind = uint8(r.Intn(16))
	case 1:
		f.N = n
	case 2:
		f.A = n
	case 3:
		f.W = api.Word(r.Intn(60))
	case 4:
		f.W = api.Word(r.Uint64() >> uint(r.Intn(30)))
	case 5, 6:
		if len(f.L) > 0 {
			f.L[r.Intn(len(f.L))] = n
		}
	case 7:
		f.L = append(f.L, n)
	case 8:
		if len(f.L) > 0 {
			f.L = f.L[:len(f.L)-1]
		}
	}
	if len(tops) > 0 && r.Intn(12) == 0 {
		tops[r.Intn(len(tops))] = n
	}
	return tops
}

func TestP12_1_RandomFormsAgainstASlowerWay(t *testing.T) {
	r := rand.New(rand.NewSource(121))
	good, bad, many := 0, 0, 0
	for range 40000 {
		l, tops := randomForms(r)
		if !compare(t, l, tops) {
			t.Fatal(l, tops)
		}
		many += len(l)
		for range 1 + r.Intn(2) {
			tops = spoil(r, l, tops)
		}
		if compare(t, l, tops) {
			good++
		} else {
			bad++
		}
		if t.Failed() {
			return
		}
	}
	if good < 5000 || bad < 5000 || many < 200000 {
		t.Error(good, bad, many)
	}
}

// Whatever forms come, the call ends and does not panic.
func TestP12_1_AnyForms(t *testing.T) {
	r := rand.New(rand.NewSource(122))
	numbers := []int{math.MinInt, math.MinInt + 1, -1, 0, 1, 2, 3, 4, 1 << 31, 1 << 32, math.MaxInt - 1, math.MaxInt}
	pick := func() int { return numbers[r.Intn(len(numbers))] }
	for range 100000 {
		var l []api.Form
		var tops []int
		for range r.Intn(5) {
			f := api.Form{Kind: uint8(r.Intn(256)), At: pick(), N: pick(), A: pick(), W: api.Word(r.Uint64())}
			if r.Intn(8) > 0 {
				f.Kind = uint8(foName + r.Intn(10))
			}
			for range r.Intn(4) {
				f.L = append(f.L, []int{pick(), r.Intn(3)}[r.Intn(2)])
			}
			l = append(l, f)
		}
		for range r.Intn(3) {
			tops = append(tops, []int{pick(), r.Intn(3)}[r.Intn(2)])
		}
		compare(t, l, tops)
		if t.Failed() {
			return
		}
	}
}

// writer writes the text of a program by chance, whose names are all there.
type writer struct {
	r     *rand.Rand
	names []string
}

func (w *writer) text(l ...string) string { return "(" + strings.Join(l, " ") + ")" }

func (w *writer) any(deep, many int) string {
	var l []string
	for range many {
		l = append(l, w.expr(deep))
	}
	return strings.Join(l, " ")
}

func (w *writer) leaf() string {
	if w.r.Intn(2) == 0 && len(w.names) > 0 {
		return w.names[w.r.Intn(len(w.names))]
	}
	return []string{strconv.Itoa(w.r.Intn(2000) - 1000), "#t", "#f", "'a", "'()", "'(1 (b #f) ())", "(time)", "(promise)"}[w.r.Intn(8)]
}

// within writes a body in which more names are there.
func (w *writer) within(deep int, more ...string) string {
	old := w.names
	w.names = append(slices.Clone(old), more...)
	s := w.any(deep, 1+w.r.Intn(2))
	w.names = old
	return s
}

func (w *writer) expr(deep int) string {
	if deep == 0 {
		return w.leaf()
	}
	deep = w.r.Intn(deep)
	a, b := "p"+strconv.Itoa(w.r.Intn(3)), "q"+strconv.Itoa(w.r.Intn(3))
	switch w.r.Intn(14) {
	case 0:
		return w.text("if", w.any(deep, 2+w.r.Intn(2)))
	case 1:
		return w.text("lambda", "("+a+" "+b+")", w.within(deep, a, b))
	case 2:
		return w.text("lambda", "()", w.within(deep))
	case 3:
		return w.text("begin", w.any(deep, 1+w.r.Intn(3)))
	case 4:
		return w.text("let", "(("+a+" "+w.expr(deep)+") ("+b+" "+w.expr(deep)+"))", w.within(deep, a, b))
	case 5:
		return w.text("let*", "(("+a+" "+w.expr(deep)+"))", w.within(deep, a))
	case 6:
		return w.text("cond", w.text(w.any(deep, 2)), w.text("else", w.any(deep, 2)))
	case 7:
		return w.text([]string{"and", "or"}[w.r.Intn(2)], w.any(deep, w.r.Intn(4)))
	case 8:
		return w.text([]string{"when", "unless"}[w.r.Intn(2)], w.any(deep, 2+w.r.Intn(2)))
	case 9:
		if len(w.names) > 0 {
			return w.text("set!", w.names[w.r.Intn(len(w.names))], w.expr(deep))
		}
		return w.leaf()
	case 10, 11:
		return w.text(w.any(deep, 1+w.r.Intn(4)))
	case 12:
		return w.text([]string{"+", "cons", "after", "settle", "eq?"}[w.r.Intn(5)], w.any(deep, 2))
	}
	return w.text([]string{"not", "car", "call/cc", "out", "call/cc"}[w.r.Intn(5)], w.expr(deep))
}

func (w *writer) program() string {
	var l []string
	w.names = []string{"f", "g"}
	for range 1 + w.r.Intn(4) {
		switch w.r.Intn(4) {
		case 0:
			l = append(l, w.text("define", "g", w.expr(3)))
		case 1:
			l = append(l, w.text("define", "(f p)", w.within(3, "p")))
		default:
			l = append(l, w.expr(4))
		}
	}
	return strings.Join(append(l, "(define f 1)", "(define g 2)", w.expr(2)), "\n")
}

func TestP12_3_TheCodeOfTextsIsValid(t *testing.T) {
	r := rand.New(rand.NewSource(123))
	good, blocks := 0, 0
	ops := map[uint8]int{}
	for range 8000 {
		w := &writer{r: r}
		s := w.program()
		// A text may be too long.
		if len(s) > api.MaxText {
			continue
		}
		l, own := resolve(t, s)
		if !compare(t, l, own) || t.Failed() {
			t.Fatal(s)
		}
		b, _ := gen.Gen(l, own)
		if i, at, e := code.Check(b); i != 0 || at != 0 || e != okay {
			t.Fatal(s, i, at, e)
		}
		good++
		blocks += len(b)
		for _, x := range b {
			for _, y := range x.L {
				ops[y.Op]++
			}
		}
	}
	if good < 6000 || blocks < 16000 || len(ops) != 16 {
		t.Error(good, blocks, ops)
	}
}

// The edges of what Scope returns: functions of as many names as may be, names of the highest numbers, and forms as deep as a text's may be.
func TestP12_3_TheEdgesOfTexts(t *testing.T) {
	var l []string
	for i := range mostMany {
		l = append(l, "n"+strconv.Itoa(i))
	}
	many := strings.Join(l, " ")
	for _, s := range []string{
		"(lambda (" + many + ") n99)",
		"(define (f " + many + ") (set! n99 n0) (f " + many + "))",
		"(list " + strings.Repeat("1 ", 1900) + ") (define list 1)",
		strings.Repeat("(not ", 48) + "1" + strings.Repeat(")", 48),
		strings.Repeat("(lambda () ", 48) + "1" + strings.Repeat(")", 48),
		strings.Repeat("(call/cc ", 48) + "1" + strings.Repeat(")", 48),
		"(and " + strings.Repeat("1 ", 1900) + ")",
		"(or " + strings.Repeat("1 ", 1900) + ")",
		"(cond " + strings.Repeat("(1 2)", 700) + ")",
		"(let* (" + strings.Repeat("(a 1)", 700) + ") a)",
		"'(" + strings.Repeat("1 ", 1900) + ")",
		"999999999999 -999999999999",
	} {
		f, tops := resolve(t, s)
		if !compare(t, f, tops) {
			t.Error(s)
		}
	}
}

func TestNumbers(t *testing.T) {
	if l := []uint8{api.FoInt, api.FoBool, api.FoQuote, api.FoName, api.FoIf, api.FoFn, api.FoSet, api.FoSeq, api.FoDef, api.FoCall, api.FoLocal, api.FoPrim, api.FoConst}; !slices.Equal(l, []uint8{foInt, foBool, foQuote, foName, foIf, foFn, foSet, foSeq, foDef, foCall, foLocal, foPrim, foConst}) {
		t.Error(l)
	}
	if l := []int{api.PrAdd, api.PrNot, api.PrCons, api.PrCar, api.PrCC, api.HoOut, api.HoAfter, api.HoPromise, api.HoSettle, api.HoThen, api.HoWrite, api.HoRead, api.HoTime, api.PrLast, api.MaxMany}; !slices.Equal(l, []int{add, isNot, cons, car, callCC, out, after, promise, settle, then, write, readNext, time, pastAt, mostMany}) {
		t.Error(l)
	}
	for i, s := range ops()[1:] {
		want := []uint8{api.InWord, api.InLocal, api.InName, api.InSet, api.InSetName, api.InDef, api.InPush, api.InJump, api.InNot, api.InFn, api.InPrim, api.InCall, api.InTail, api.InCC, api.InCCTail, api.InRet}[i]
		if x := instruction([]string{s}); x.Op != want {
			t.Error(s, x.Op, want)
		}
	}
}

package prim_test

import (
	"math"
	"math/big"
	"math/rand"
	"reflect"
	"slices"
	"strconv"
	"testing"

	"eddywheel/api"
	"eddywheel/arena"
	"eddywheel/names"
	"eddywheel/prim"
	"eddywheel/scope"
)

// Written out, so that a number that moves is seen.
const (
	add, sub, mul, quo, rem, less, equal, same = 1, 2, 3, 4, 5, 6, 7, 8
	isNot, isNull, isPair, cons, car, cdr      = 9, 10, 11, 12, 13, 14
	isNumber, isSymbol, isProcedure, callCC    = 15, 16, 17, 18
	time                                       = 30

	greatest   = 1<<40 - 1
	mostFields = 255
	mostKind   = 9
	mostWords  = 1 << 16

	pair, fn, env, frame, cont = 1, 2, 3, 4, 5

	null  api.Word = 2
	no    api.Word = 10
	yes   api.Word = 18
	unit  api.Word = 26
	noYet api.Word = 34

	okay    api.Errno = 0
	errArg  api.Errno = 1
	errOver api.Errno = 10
	errKind api.Errno = 11
	errZero api.Errno = 12
	errRoom api.Errno = 20
	errPart api.Errno = 100
)

// A word is encoded by the document's words, not by package word.

func number(n int) api.Word { return api.Word(uint64(n) * 8) }

func at(n int) api.Word { return api.Word(n)*8 + 1 }

func symbol(n int) api.Word { return api.Word(n)*8 + 3 }

func handle(n int) api.Word { return api.Word(n)*8 + 4 }

func numbers() []api.Word {
	return []api.Word{number(0), number(1), number(-1), number(5), number(-77), number(greatest), number(-greatest)}
}

func symbols() []api.Word {
	return []api.Word{symbol(0), symbol(1), symbol(4095), symbol(4096), symbol(greatest)}
}

func marks() []api.Word { return []api.Word{null, no, yes, unit} }

func handles() []api.Word { return []api.Word{handle(0), handle(1), handle(greatest)} }

// strays are words of each kind that are no valid ones: just out of range, far out of it, marks and kinds that there are none of.
func strays() []api.Word {
	return []api.Word{
		number(greatest + 1), number(-greatest - 1), 1 << 62, 1 << 63, 1<<63 + 8,
		noYet, 42, 1<<43 + 2, 1<<63 | 2, 1<<64 - 6,
		symbol(greatest + 1), 1<<63 | 3, 1<<64 - 5,
		handle(greatest + 1), 1<<64 - 4,
		5, 6, 7, 13, 14, 15, 1<<64 - 3, 1<<64 - 2, 1<<64 - 1,
	}
}

// gone are addresses at which an arena has no object, if an object begins at 0 that has two fields, and nothing follows it; some are no valid ones.
func gone(size int) []api.Word {
	return []api.Word{at(1), at(2), at(3), at(size - 1), at(size), at(size + 1), at(mostWords), at(1 << 32), at(greatest), at(greatest + 1), 1<<43 | 1, 1<<44 | 1, 1<<63 | 1, 1<<64 - 7}
}

// plain are words of which none is the address of an object.
func plain() []api.Word {
	return slices.Concat(numbers(), symbols(), marks(), handles(), strays())
}

type object struct {
	kind   int
	fields []api.Word
}

// contents are the objects of an arena, by their addresses, and how many words it uses and has; every address is asked.
type contents struct {
	objects    map[api.Word]object
	used, size int
}

func look(a *arena.Arena) contents {
	found := map[api.Word]object{}
	for n := range a.Size() + 1 {
		w := at(n)
		if a.Kind(w) == 0 {
			continue
		}
		fields := make([]api.Word, a.Len(w))
		for i := range fields {
			fields[i], _ = a.Get(w, i)
		}
		found[w] = object{a.Kind(w), fields}
	}
	return contents{found, a.Used(), a.Size()}
}

func newArena(t *testing.T, size int) *arena.Arena {
	t.Helper()
	a, e := arena.New(size)
	if e != okay {
		t.Fatal(size, e)
	}
	return a
}

func alloc(t *testing.T, a *arena.Arena, kind int, fields ...api.Word) api.Word {
	t.Helper()
	w, e := a.Alloc(kind, fields...)
	if e != okay {
		t.Fatal(kind, fields, e)
	}
	return w
}

// wants asks for one answer, and that neither the arena nor the words that are handed in are changed.
func wants(t *testing.T, a *arena.Arena, want api.Word, wantE api.Errno, op int, l ...api.Word) {
	t.Helper()
	before, given := look(a), slices.Clone(l)
	w, e := prim.Do(a, op, l...)
	if w != want || e != wantE {
		t.Errorf("Do(%d, %#x) is %#x and %d, not %#x and %d", op, given, uint64(w), e, uint64(want), wantE)
	}
	if !reflect.DeepEqual(look(a), before) {
		t.Errorf("Do(%d, %#x) changes the arena", op, given)
	}
	if !slices.Equal(l, given) {
		t.Errorf("Do(%d, %#x) changes its words to %#x", op, given, l)
	}
}

// wantsPair asks that cons answers the address of a new Pair, behind what was there, and that nothing else is changed.
func wantsPair(t *testing.T, a *arena.Arena, x, y api.Word) api.Word {
	t.Helper()
	want := look(a)
	p := at(want.used)
	want.objects[p] = object{pair, []api.Word{x, y}}
	want.used += 3
	l := []api.Word{x, y}
	w, e := prim.Do(a, cons, l...)
	if w != p || e != okay {
		t.Fatalf("cons of %#x and %#x is %#x and %d, not %#x", uint64(x), uint64(y), uint64(w), e, uint64(p))
	}
	if got := look(a); !reflect.DeepEqual(got, want) {
		t.Fatal("cons leaves another arena", got, want)
	}
	if l[0] != x || l[1] != y {
		t.Error("cons changes its words", l)
	}
	return w
}

func mark(is bool) api.Word {
	if is {
		return yes
	}
	return no
}

// manyOf is to how many words a primitive is done, by the order in which the document lists them.
func manyOf(op int) int {
	switch {
	case op <= same, op == cons:
		return 2
	}
	return 1
}

func TestP10_1_Sums(t *testing.T) {
	a := newArena(t, 4)
	for _, x := range []struct{ x, y, want int }{
		{1, 2, 3}, {2, 1, 3}, {-1, -2, -3}, {5, -7, -2}, {0, 0, 0}, {3, 0, 3}, {greatest, -greatest, 0},
		{greatest - 1, 1, greatest}, {1 - greatest, -1, -greatest}, {greatest, 0, greatest}, {0, -greatest, -greatest},
	} {
		wants(t, a, number(x.want), okay, add, number(x.x), number(x.y))
	}
	for _, x := range [][2]int{{greatest, 1}, {1, greatest}, {-greatest, -1}, {-1, -greatest}, {greatest, greatest}, {-greatest, -greatest}, {1 << 39, 1 << 39}} {
		wants(t, a, 0, errOver, add, number(x[0]), number(x[1]))
	}
}

func TestP10_1_Differences(t *testing.T) {
	a := newArena(t, 4)
	for _, x := range []struct{ x, y, want int }{
		{3, 2, 1}, {2, 3, -1}, {-1, -2, 1}, {5, -7, 12}, {0, 0, 0}, {0, 4, -4}, {greatest, greatest, 0},
		{greatest - 1, -1, greatest}, {1 - greatest, 1, -greatest}, {0, greatest, -greatest}, {0, -greatest, greatest},
	} {
		wants(t, a, number(x.want), okay, sub, number(x.x), number(x.y))
	}
	for _, x := range [][2]int{{greatest, -1}, {1, -greatest}, {-greatest, 1}, {-1, greatest}, {greatest, -greatest}, {-greatest, greatest}, {1 << 39, -1 << 39}} {
		wants(t, a, 0, errOver, sub, number(x[0]), number(x[1]))
	}
}

func TestP10_1_Products(t *testing.T) {
	a := newArena(t, 4)
	for _, x := range []struct{ x, y, want int }{
		{3, 2, 6}, {-3, 2, -6}, {3, -2, -6}, {-3, -2, 6}, {0, greatest, 0}, {-greatest, 0, 0}, {1, 1, 1},
		{greatest, 1, greatest}, {-1, greatest, -greatest}, {-greatest, -1, greatest}, {1 << 20, 1<<20 - 1, 1<<40 - 1<<20},
		{1<<20 + 1, 1<<20 - 1, greatest}, {-1<<20 - 1, 1<<20 - 1, -greatest},
	} {
		wants(t, a, number(x.want), okay, mul, number(x.x), number(x.y))
	}
	// Some of these wrap round to a number that is in range, in 64 bits.
	for _, x := range [][2]int{{1 << 20, 1 << 20}, {-1 << 20, 1 << 20}, {1 << 39, 2}, {2, -1 << 39}, {greatest, greatest}, {greatest, -greatest}, {-greatest, -greatest}, {1 << 32, 1 << 32}, {1 << 35, 1 << 29}, {greatest, 2}} {
		wants(t, a, 0, errOver, mul, number(x[0]), number(x[1]))
	}
}

func TestP10_1_QuotientsAndRests(t *testing.T) {
	a := newArena(t, 4)
	for _, x := range []struct{ x, y, quotient, rest int }{
		{7, 2, 3, 1}, {-7, 2, -3, -1}, {7, -2, -3, 1}, {-7, -2, 3, -1}, {6, 3, 2, 0}, {-6, 3, -2, 0}, {1, 2, 0, 1}, {-1, 2, 0, -1},
		{0, 5, 0, 0}, {0, -5, 0, 0}, {greatest, 1, greatest, 0}, {greatest, -1, -greatest, 0}, {-greatest, -1, greatest, 0},
		{-greatest, greatest, -1, 0}, {greatest - 1, greatest, 0, greatest - 1}, {greatest, greatest - 1, 1, 1}, {-greatest, greatest - 1, -1, -1},
	} {
		wants(t, a, number(x.quotient), okay, quo, number(x.x), number(x.y))
		wants(t, a, number(x.rest), okay, rem, number(x.x), number(x.y))
	}
	for _, x := range numbers() {
		wants(t, a, 0, errZero, quo, x, 0)
		wants(t, a, 0, errZero, rem, x, 0)
	}
}

func TestP10_1_WhatIsBelowAndWhatIsEqual(t *testing.T) {
	a := newArena(t, 4)
	for _, x := range []struct {
		x, y         int
		below, alike api.Word
	}{
		{1, 2, yes, no}, {2, 1, no, no}, {2, 2, no, yes}, {-1, 0, yes, no}, {0, -1, no, no}, {0, 0, no, yes}, {-2, -1, yes, no}, {-1, -2, no, no}, {-5, 5, yes, no}, {5, -5, no, no},
		{-greatest, greatest, yes, no}, {greatest, -greatest, no, no}, {greatest, greatest, no, yes}, {-greatest, -greatest, no, yes}, {greatest - 1, greatest, yes, no}, {-greatest, 1 - greatest, yes, no},
	} {
		wants(t, a, x.below, okay, less, number(x.x), number(x.y))
		wants(t, a, x.alike, okay, equal, number(x.x), number(x.y))
	}
}

func TestP10_1_NoNumbers(t *testing.T) {
	a := newArena(t, 20)
	p := alloc(t, a, pair, number(1), number(2))
	f := alloc(t, a, fn, 0, null)
	bad := slices.Concat(symbols(), marks(), handles(), strays(), []api.Word{p, f}, gone(20))
	for op := add; op <= equal; op++ {
		for _, x := range bad {
			for _, y := range numbers() {
				wants(t, a, 0, errKind, op, x, y)
				wants(t, a, 0, errKind, op, y, x)
			}
			wants(t, a, 0, errKind, op, x, x)
		}
	}
}

func TestP10_1_TheSameWord(t *testing.T) {
	a := newArena(t, 20)
	p := alloc(t, a, pair, number(1), null)
	q := alloc(t, a, pair, number(1), null)
	f := alloc(t, a, fn, 0, null)
	l := slices.Concat(plain(), []api.Word{p, q, f}, gone(20))
	slices.Sort(l)
	l = slices.Compact(l)
	for i, x := range l {
		for k, y := range l {
			wants(t, a, mark(i == k), okay, same, x, y)
		}
	}
}

// asksOf holds a predicate against words of every kind: it is true of those in trues, and of no others.
func asksOf(t *testing.T, op int, trues []api.Word) {
	t.Helper()
	a := newArena(t, 100)
	l := slices.Concat(plain(), []api.Word{alloc(t, a, pair, 0, 0)}, gone(100))
	for kind := fn; kind <= mostKind; kind++ {
		l = append(l, alloc(t, a, kind, no, null))
	}
	for _, x := range l {
		wants(t, a, mark(slices.Contains(trues, x)), okay, op, x)
	}
}

func TestP10_1_Not(t *testing.T) { asksOf(t, isNot, []api.Word{no}) }

func TestP10_1_Null(t *testing.T) { asksOf(t, isNull, []api.Word{null}) }

func TestP10_1_Number(t *testing.T) { asksOf(t, isNumber, numbers()) }

func TestP10_1_Symbol(t *testing.T) { asksOf(t, isSymbol, symbols()) }

// eachObject does something to objects of every kind, with few fields and with many, each with others around it.
func eachObject(t *testing.T, do func(a *arena.Arena, w api.Word, kind, many int)) {
	t.Helper()
	for kind := 1; kind <= mostKind; kind++ {
		for _, many := range []int{0, 1, 2, 3, 4, 5, 6, 17, mostFields - 1, mostFields} {
			a := newArena(t, 300)
			alloc(t, a, 10-kind, number(7))
			fields := make([]api.Word, many)
			for i := range fields {
				fields[i] = number(i + 1)
			}
			w := alloc(t, a, kind, fields...)
			alloc(t, a, pair, number(8), number(9))
			do(a, w, kind, many)
		}
	}
}

func TestP10_1_PairIsOfItsKindWithTwoFields(t *testing.T) {
	eachObject(t, func(a *arena.Arena, w api.Word, kind, many int) {
		wants(t, a, mark(kind == pair && many == 2), okay, isPair, w)
	})
}

func TestP10_1_ProcedureIsOfTwoKinds(t *testing.T) {
	eachObject(t, func(a *arena.Arena, w api.Word, kind, many int) {
		wants(t, a, mark(kind == fn || kind == cont), okay, isProcedure, w)
	})
}

func TestP10_1_CarAndCdrAreOfAPair(t *testing.T) {
	eachObject(t, func(a *arena.Arena, w api.Word, kind, many int) {
		if kind == pair && many == 2 {
			wants(t, a, number(1), okay, car, w)
			wants(t, a, number(2), okay, cdr, w)
			return
		}
		wants(t, a, 0, errPart, car, w)
		wants(t, a, 0, errPart, cdr, w)
	})
}

// Each arena has one object alone, of a kind that the predicates are true of; around it, and within it, is nothing.
func TestP10_1_ThingsThatAreNotThere(t *testing.T) {
	for _, size := range []int{4, 20, mostWords} {
		for _, kind := range []int{pair, fn, cont} {
			a := newArena(t, size)
			alloc(t, a, kind, at(0), at(0))
			for _, x := range slices.Concat(plain(), gone(size)) {
				wants(t, a, no, okay, isPair, x)
				wants(t, a, no, okay, isProcedure, x)
				wants(t, a, 0, errPart, car, x)
				wants(t, a, 0, errPart, cdr, x)
			}
			if size == mostWords { // Every address of it is asked each time.
				break
			}
		}
	}
}

func TestP10_1_PredicatesOfThingsDoNotMixThem(t *testing.T) {
	a := newArena(t, 40)
	p, f, c := alloc(t, a, pair, 0, 0), alloc(t, a, fn, 0, null), alloc(t, a, cont, null)
	e, r := alloc(t, a, env, null), alloc(t, a, frame, 0, 0, null, null, null)
	for w, is := range map[api.Word][2]api.Word{p: {yes, no}, f: {no, yes}, c: {no, yes}, e: {no, no}, r: {no, no}} {
		wants(t, a, is[0], okay, isPair, w)
		wants(t, a, is[1], okay, isProcedure, w)
	}
}

// A thing's fields change; what it is does not.
func TestP10_1_FieldsAreAskedWhenTheyAreAskedFor(t *testing.T) {
	a := newArena(t, 10)
	p := alloc(t, a, pair, number(1), number(2))
	for i, want := range plain() {
		if a.Set(p, i%2, want) != okay {
			t.Fatal(i)
		}
		wants(t, a, want, okay, car+i%2, p)
		wants(t, a, yes, okay, isPair, p)
	}
}

func TestP10_1_ConsTakesThreeWords(t *testing.T) {
	for size := 3; size < 20; size++ {
		a := newArena(t, size)
		for i := range size / 3 {
			if p := wantsPair(t, a, number(i), null); p != at(3*i) {
				t.Error(size, i, uint64(p))
			}
		}
		for range 3 {
			wants(t, a, 0, errRoom, cons, number(1), null)
		}
	}
}

func TestP10_1_ConsWithoutRoom(t *testing.T) {
	for size := 1; size <= 12; size++ {
		for used := 1; used <= size; used++ {
			a := newArena(t, size)
			alloc(t, a, env, make([]api.Word, used-1)...)
			if size-used < 3 {
				wants(t, a, 0, errRoom, cons, at(0), yes)
				wants(t, a, 0, errRoom, cons, noYet, 7)
				continue
			}
			wantsPair(t, a, at(0), yes)
		}
	}
	for size := 1; size <= 2; size++ {
		wants(t, newArena(t, size), 0, errRoom, cons, 0, 0)
	}
}

// All else goes on in an arena that is full.
func TestP10_1_AFullArena(t *testing.T) {
	a := newArena(t, 6)
	p := wantsPair(t, a, number(4), null)
	q := wantsPair(t, a, number(3), p)
	wants(t, a, 0, errRoom, cons, q, p)
	wants(t, a, number(7), okay, add, number(4), number(3))
	wants(t, a, yes, okay, isPair, q)
	wants(t, a, p, okay, cdr, q)
	wants(t, a, number(4), okay, car, p)
	wants(t, a, no, okay, same, p, q)
}

func TestP10_1_TheGreatestArena(t *testing.T) {
	a := newArena(t, mostWords)
	rest := null
	for i := range mostWords / 3 {
		p, e := prim.Do(a, cons, number(i), rest)
		if p != at(3*i) || e != okay {
			t.Fatal(i, uint64(p), e)
		}
		rest = p
	}
	wants(t, a, 0, errRoom, cons, 0, rest)
	for i := mostWords/3 - 1; i >= 0; i-- {
		x, e := prim.Do(a, car, rest)
		if x != number(i) || e != okay {
			t.Fatal(i, uint64(x), e)
		}
		if rest, e = prim.Do(a, cdr, rest); e != okay {
			t.Fatal(i, e)
		}
	}
	if rest != null {
		t.Error(uint64(rest))
	}
}

func TestP10_1_TheSameWordsTwiceAreTwoPairs(t *testing.T) {
	for _, x := range plain() {
		a := newArena(t, 20)
		p := wantsPair(t, a, x, x)
		q := wantsPair(t, a, x, x)
		wants(t, a, no, okay, same, p, q)
		if a.Set(p, 0, number(99)) != okay {
			t.Fatal(uint64(x))
		}
		wants(t, a, x, okay, car, q)
		wants(t, a, x, okay, cdr, p)
		wants(t, a, number(99), okay, car, p)
	}
}

// The words that are handed in may be a part of more, and may be changed by their owner afterwards.
func TestP10_1_WordsAreNeitherKeptNorChanged(t *testing.T) {
	a := newArena(t, 30)
	p := alloc(t, a, pair, number(5), number(6))
	for op := add; op <= isProcedure; op++ {
		whole := []api.Word{p, number(2), number(3), number(4)}
		if op <= equal {
			whole[0] = number(9)
		}
		before := slices.Clone(whole)
		if _, e := prim.Do(a, op, whole[:manyOf(op)]...); e != okay {
			t.Error(op, e)
		}
		if !slices.Equal(whole, before) {
			t.Error(op, whole, before)
		}
	}
	l := []api.Word{number(1), number(2)}
	q, e := prim.Do(a, cons, l...)
	if e != okay {
		t.Fatal(e)
	}
	l[0], l[1] = number(3), number(4)
	wants(t, a, number(1), okay, car, q)
	wants(t, a, number(2), okay, cdr, q)
}

func TestP10_1_NumbersOfNoPrimitive(t *testing.T) {
	a := newArena(t, 30)
	p := alloc(t, a, pair, number(5), number(6))
	bad := []int{0, -1, -2, -17, -18, math.MinInt, math.MinInt + 1, math.MaxInt, math.MaxInt - 1, 1 << 8, 1<<8 + add, 1<<16 + isNot, 1<<32 + cons, -1<<32 + car, 1 << 40}
	for op := callCC; op <= time+10; op++ {
		bad = append(bad, op)
	}
	for _, op := range bad {
		for many := range 5 {
			wants(t, a, 0, errArg, op, []api.Word{number(1), number(2), p, null}[:many]...)
			wants(t, a, 0, errArg, op, []api.Word{p, p, p, p}[:many]...)
		}
	}
}

func TestP10_1_NumbersOfWords(t *testing.T) {
	a := newArena(t, 30)
	p := alloc(t, a, pair, number(5), number(6))
	for op := add; op <= isProcedure; op++ {
		for _, many := range []int{0, 1, 2, 3, 4, 5, 100, mostFields, mostFields + 1, 1000} {
			if many == manyOf(op) {
				continue
			}
			wants(t, a, 0, errArg, op, slices.Repeat([]api.Word{p}, many)...)
			wants(t, a, 0, errArg, op, slices.Repeat([]api.Word{number(1)}, many)...)
		}
		wants(t, a, 0, errArg, op)
		wants(t, a, 0, errArg, op, []api.Word{}...)
	}
}

// The primitives' numbers, and to how many words each is done, are those of layer 9.
func TestP10_1_NamesOfTheLanguage(t *testing.T) {
	l := []string{"+", "-", "*", "quotient", "remainder", "<", "=", "eq?", "not", "null?", "pair?", "cons", "car", "cdr", "number?", "symbol?", "procedure?"}
	if len(l) != isProcedure {
		t.Fatal(len(l))
	}
	a := newArena(t, 300)
	for i, s := range l {
		op, many, ok := scope.Prim(s)
		if op != i+1 || many != manyOf(op) || !ok {
			t.Error(s, op, many, ok)
		}
		for n := range 6 {
			_, e := prim.Do(a, op, make([]api.Word, n)...)
			if (e == errArg) != (n != many) {
				t.Error(s, n, many, e)
			}
		}
	}
}

// What is wrong with the call is told ahead of what is wrong with its words, and of there being no room.
func TestP10_1_WhichErrorComesFirst(t *testing.T) {
	full := newArena(t, 1)
	alloc(t, full, env)
	for _, a := range []*arena.Arena{full, nil} {
		wants(t, a, 0, errArg, cons, number(1))
		wants(t, a, 0, errArg, cons, number(1), number(2), number(3))
		wants(t, a, 0, errArg, car, number(1), number(2))
		wants(t, a, 0, errArg, cdr)
		wants(t, a, 0, errArg, add, null)
		wants(t, a, 0, errArg, quo, null, 0, 0)
		wants(t, a, 0, errArg, 0, null, 0)
		wants(t, a, 0, errArg, callCC, null)
		wants(t, a, 0, errKind, quo, null, 0)
		wants(t, a, 0, errKind, rem, number(greatest+1), 0)
		wants(t, a, 0, errKind, add, number(greatest+1), number(greatest))
	}
}

func TestP10_1_ANilArena(t *testing.T) {
	for _, a := range []*arena.Arena{nil, {}} {
		wants(t, a, number(3), okay, add, number(1), number(2))
		wants(t, a, number(-1), okay, sub, number(1), number(2))
		wants(t, a, number(6), okay, mul, number(3), number(2))
		wants(t, a, number(3), okay, quo, number(7), number(2))
		wants(t, a, number(1), okay, rem, number(7), number(2))
		wants(t, a, yes, okay, less, number(1), number(2))
		wants(t, a, no, okay, equal, number(1), number(2))
		wants(t, a, yes, okay, same, at(0), at(0))
		wants(t, a, yes, okay, isNot, no)
		wants(t, a, yes, okay, isNull, null)
		wants(t, a, yes, okay, isNumber, number(1))
		wants(t, a, yes, okay, isSymbol, symbol(1))
		wants(t, a, 0, errRoom, cons, number(1), null)
		wants(t, a, 0, errArg, cons, number(1))
		wants(t, a, 0, errArg, 0)
		for _, x := range slices.Concat(plain(), gone(0), []api.Word{at(0)}) {
			wants(t, a, no, okay, isPair, x)
			wants(t, a, no, okay, isProcedure, x)
			wants(t, a, 0, errPart, car, x)
			wants(t, a, 0, errPart, cdr, x)
		}
	}
}

// What an arena has is nothing to another one.
func TestP10_1_EachArenaIsItsOwn(t *testing.T) {
	a, b := newArena(t, 10), newArena(t, 10)
	p := wantsPair(t, a, number(1), number(2))
	wants(t, b, no, okay, isPair, p)
	wants(t, b, 0, errPart, car, p)
	q := wantsPair(t, b, number(3), number(4))
	wants(t, a, yes, okay, same, p, q)
	wants(t, a, number(1), okay, car, q)
	wants(t, b, number(3), okay, car, p)
}

// A name need not be in any table of names.
func TestP10_1_ASymbolIsAWord(t *testing.T) {
	a, n := newArena(t, 4), names.New()
	i, e := n.Put("x")
	if i != 0 || e != okay {
		t.Fatal(i, e)
	}
	for _, x := range symbols() {
		wants(t, a, yes, okay, isSymbol, x)
		wants(t, nil, yes, okay, isSymbol, x)
	}
}

// model is an arena as a slower way has it, and what is done to words by the document's own terms.
type model struct {
	objects map[api.Word]object
	used    int
	size    int
}

func (m *model) isPair(x api.Word) bool {
	o := m.objects[x]
	return o.kind == pair && len(o.fields) == 2
}

func (m *model) do(op int, l []api.Word) (api.Word, api.Errno) {
	if op < add || op > isProcedure || len(l) != manyOf(op) {
		return 0, errArg
	}
	switch x := l[0]; op {
	case same:
		return mark(x == l[1]), okay
	case isNot, isNull:
		return mark(x == map[int]api.Word{isNot: no, isNull: null}[op]), okay
	case isPair:
		return mark(m.isPair(x)), okay
	case isNumber:
		_, ok := modelInt(x)
		return mark(ok), okay
	case isSymbol:
		return mark(x%8 == 3 && x/8 <= greatest), okay
	case isProcedure:
		kind := m.objects[x].kind
		return mark(kind == fn || kind == cont), okay
	case cons:
		return m.cons(l)
	case car, cdr:
		if !m.isPair(x) {
			return 0, errPart
		}
		return m.objects[x].fields[op-car], okay
	}
	return modelCompute(op, l[0], l[1])
}

func (m *model) cons(l []api.Word) (api.Word, api.Errno) {
	if m.used+3 > m.size {
		return 0, errRoom
	}
	w := at(m.used)
	m.objects[w] = object{pair, slices.Clone(l)}
	m.used += 3
	return w, okay
}

func modelInt(x api.Word) (*big.Int, bool) {
	n := int64(x) / 8
	return big.NewInt(n), x%8 == 0 && -greatest <= n && n <= greatest
}

func modelCompute(op int, x, y api.Word) (api.Word, api.Errno) {
	a, aIs := modelInt(x)
	b, bIs := modelInt(y)
	if !aIs || !bIs {
		return 0, errKind
	}
	if (op == quo || op == rem) && b.Sign() == 0 {
		return 0, errZero
	}
	n := new(big.Int)
	switch op {
	case less:
		return mark(a.Cmp(b) < 0), okay
	case equal:
		return mark(a.Cmp(b) == 0), okay
	case add:
		n.Add(a, b)
	case sub:
		n.Sub(a, b)
	case mul:
		n.Mul(a, b)
	case quo:
		n.Quo(a, b)
	case rem:
		n.Rem(a, b)
	}
	if n.CmpAbs(big.NewInt(greatest)) > 0 {
		return 0, errOver
	}
	return number(int(n.Int64())), okay
}

func randomWord(r *rand.Rand, used int) api.Word {
	switch r.Intn(9) {
	case 0, 1:
		return number(r.Intn(9) - 4)
	case 2:
		return number(r.Intn(1<<uint(1+r.Intn(42))) - 1<<uint(r.Intn(42)))
	case 3:
		return number(greatest - r.Intn(3))
	case 4:
		return plain()[r.Intn(len(plain()))]
	case 5:
		return api.Word(r.Uint64())
	}
	return at(r.Intn(used + 3))
}

func TestP10_1_AgainstASlowerWay(t *testing.T) {
	for seed := range 300 {
		r := rand.New(rand.NewSource(int64(seed)))
		size := 1 + r.Intn(60)
		a, m := newArena(t, size), &model{map[api.Word]object{}, 0, size}
		for range 200 {
			if r.Intn(20) == 0 { // Other things come between.
				fields := []api.Word{number(1), null, yes, symbol(2)}[:r.Intn(5)]
				kind := 1 + r.Intn(mostKind)
				if w, e := a.Alloc(kind, fields...); e == okay {
					m.objects[w] = object{kind, slices.Clone(fields)}
					m.used += 1 + len(fields)
				}
			}
			op := r.Intn(isProcedure+3) - 1
			l := make([]api.Word, manyOf(op))
			if r.Intn(15) == 0 {
				l = make([]api.Word, r.Intn(4))
			}
			for i := range l {
				l[i] = randomWord(r, m.used)
			}
			want, wantE := m.do(op, l)
			w, e := prim.Do(a, op, l...)
			if w != want || e != wantE {
				t.Fatalf("%d: Do(%d, %#x) is %#x and %d, not %#x and %d", seed, op, l, uint64(w), e, uint64(want), wantE)
			}
			if got := look(a); !reflect.DeepEqual(got, contents{m.objects, m.used, m.size}) {
				t.Fatal(seed, op, l, got, m)
			}
		}
	}
}

func TestP10_2_CarAndCdrTellWhatConsCombined(t *testing.T) {
	l := slices.Concat(plain(), gone(12), []api.Word{at(0), at(3)})
	for _, x := range l {
		for _, y := range l {
			a := newArena(t, 12)
			alloc(t, a, fn, number(0), null)
			p := wantsPair(t, a, x, y)
			wants(t, a, x, okay, car, p)
			wants(t, a, y, okay, cdr, p)
			wants(t, a, yes, okay, isPair, p)
			q := wantsPair(t, a, y, p)
			wants(t, a, x, okay, car, p)
			wants(t, a, y, okay, cdr, p)
			wants(t, a, y, okay, car, q)
			wants(t, a, p, okay, cdr, q)
		}
	}
}

func TestP10_2_Lists(t *testing.T) {
	a := newArena(t, 300)
	rest := null
	for i := range 90 {
		rest = wantsPair(t, a, number(i), rest)
		if i%10 == 0 {
			alloc(t, a, pair, rest)
		}
	}
	for i := 89; i >= 0; i-- {
		wants(t, a, number(i), okay, car, rest)
		next, e := prim.Do(a, cdr, rest)
		if e != okay {
			t.Fatal(i, e)
		}
		rest = next
	}
	wants(t, a, yes, okay, isNull, rest)
	wants(t, a, 0, errPart, car, rest)
	wants(t, a, 0, errPart, cdr, rest)
}

func TestP10_2_APairWithinItself(t *testing.T) {
	a := newArena(t, 10)
	// The address that comes next is known, so that a Pair can be of itself.
	p := wantsPair(t, a, at(0), at(0))
	wants(t, a, p, okay, car, p)
	wants(t, a, p, okay, cdr, p)
}

// The document's example, and those of the text of a run: (car (cons 1 '())) and its like.
func TestExamples(t *testing.T) {
	a := newArena(t, 10)
	p, e := prim.Do(a, api.PrCons, number(1), api.Nil)
	if e != okay {
		t.Fatal(e)
	}
	wants(t, a, number(1), okay, api.PrCar, p)
	wants(t, a, api.Nil, okay, api.PrCdr, p)
	wants(t, a, 0, errPart, api.PrCar, number(5))
	for i, op := range []int{api.PrAdd, api.PrSub, api.PrMul, api.PrQuo, api.PrRem, api.PrLess, api.PrEqual, api.PrSame, api.PrNot, api.PrNull, api.PrPair, api.PrCons, api.PrCar, api.PrCdr, api.PrInt, api.PrName, api.PrFn, api.PrCC} {
		if op != i+1 {
			t.Error(strconv.Itoa(op) + " is not " + strconv.Itoa(i+1))
		}
	}
}

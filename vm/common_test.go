package vm_test

import (
	"slices"
	"strconv"
	"strings"
	"testing"

	"eddywheel/api"
	"eddywheel/arena"
	"eddywheel/code"
	"eddywheel/expand"
	"eddywheel/gen"
	"eddywheel/names"
	"eddywheel/read"
	"eddywheel/scope"
	"eddywheel/vm"
)

// Written out, so that a number or a limit that moves is seen.
const (
	stIdle, stReady, stHost, stDone, stFail, stFull = 0, 1, 2, 3, 4, 5

	okay                                 api.Errno = 0
	errArg, errNone, errLong             api.Errno = 1, 2, 3
	errOver, errKind, errZero            api.Errno = 10, 11, 12
	errRoom, errPart                     api.Errno = 20, 100
	errUnset, errMany, errCall, errState api.Errno = 130, 131, 132, 133

	null, no, yes, unit         api.Word = 2, 10, 18, 26
	isInt, isAt, isName, isHand          = 0, 1, 3, 4

	kindPair, kindFn, kindEnv, kindFrame, kindCont = 1, 2, 3, 4, 5

	prCC, hoOut, hoTime = 18, 19, 30

	mostWords, mostNames, mostSlots, mostFuel, mostMany = 1 << 16, 1 << 12, 1 << 14, 1 << 20, 100

	wordsOfPair, wordsOfFn, wordsOfFrame, wordsOfCont = 3, 3, 6, 2
	wordsOfEnv                                        = 2 // and one more for each argument
)

// num, at, symbol and handle encode by the document's words, not by package word.
func num(n int) api.Word { return api.Word(uint64(n) * 8) }

func at(n int) api.Word { return api.Word(n)*8 + isAt }

func symbol(n int) api.Word { return api.Word(n)*8 + isName }

func handle(n int) api.Word { return api.Word(n)*8 + isHand }

// plainWords are words without an object: valid ones, words that are none, and addresses of nothing.
func plainWords() []api.Word {
	return []api.Word{0, num(1), num(-1), num(1<<40 - 1), num(1 - 1<<40), num(1 << 40), null, no, yes, unit, 34, 3, symbol(5), symbol(mostNames), handle(0), handle(7), 5, 6, 7, at(mostWords - 1), at(mostWords), at(1<<40 - 1), 1<<43 | 1, 1<<63 | 1, 1<<64 - 7, 1<<64 - 1}
}

// ops are the names that instructions have here, by their numbers.
func ops() []string {
	return []string{"", "word", "local", "name", "set", "setname", "def", "push", "jump", "not", "fn", "prim", "call", "tail", "cc", "cctail", "ret"}
}

// parse is blocks that are written as "instruction; instruction | many: instruction; .."
func parse(s string) []api.Block {
	var l []api.Block
	for _, b := range strings.Split(s, "|") {
		many, rest, ok := strings.Cut(b, ":")
		if !ok {
			many, rest = "0", b
		}
		n, _ := strconv.Atoi(strings.TrimSpace(many))
		block := api.Block{Many: n}
		for _, x := range strings.Split(rest, ";") {
			block.L = append(block.L, instruction(strings.Fields(x)))
		}
		l = append(l, block)
	}
	return l
}

func instruction(l []string) api.Ins {
	x := api.Ins{Op: uint8(slices.Index(ops(), l[0]))}
	for i, s := range l[1:] {
		n, _ := strconv.Atoi(s)
		switch {
		case l[0] == "word":
			w, _ := strconv.ParseUint(s, 10, 64)
			x.W = api.Word(w)
		case i == 0:
			x.A = n
		default:
			x.B = n
		}
	}
	return x
}

func mustNew(t *testing.T, l []api.Block, size, many int) *vm.Machine {
	t.Helper()
	if i, k, e := code.Check(l); e != okay {
		t.Fatal(l, i, k, e)
	}
	m, e := vm.New(l, size, many)
	if m == nil || e != okay {
		t.Fatal(l, size, many, e)
	}
	return m
}

// machine is one of blocks that are written out, with room enough.
func machine(t *testing.T, s string) *vm.Machine {
	t.Helper()
	return mustNew(t, parse(s), 1000, 20)
}

func mustFn(t *testing.T, m *vm.Machine) api.Word {
	t.Helper()
	w, e := m.Fn()
	if e != okay || m.Arena().Kind(w) != kindFn {
		t.Fatal(uint64(w), e)
	}
	return w
}

func mustBegin(t *testing.T, m *vm.Machine, f api.Word, l ...api.Word) {
	t.Helper()
	before := slices.Clone(l)
	if e := m.Begin(f, l...); e != okay || !slices.Equal(l, before) {
		t.Fatal(uint64(f), l, e)
	}
}

// begun is a machine of blocks that are written out, which began with the first one.
func begun(t *testing.T, s string) *vm.Machine {
	t.Helper()
	m := machine(t, s)
	mustBegin(t, m, mustFn(t, m))
	return m
}

func stands(t *testing.T, m *vm.Machine, state int, value api.Word, fault api.Errno) {
	t.Helper()
	if m.State() != state || m.Value() != value || m.Fault() != fault {
		t.Errorf("it stands at %d, %d, %d, not %d, %d, %d", m.State(), uint64(m.Value()), m.Fault(), state, uint64(value), fault)
	}
}

func asks(t *testing.T, m *vm.Machine, op int, l ...api.Word) {
	t.Helper()
	is, words := m.Asked()
	if is != op || !slices.Equal(words, l) {
		t.Errorf("it asks for %d of %v, not %d of %v", is, words, op, l)
	}
}

func runs(t *testing.T, m *vm.Machine, fuel, left int) {
	t.Helper()
	if n := m.Run(fuel); n != left {
		t.Errorf("Run of %d leaves %d, not %d", fuel, n, left)
	}
}

// ends asks what comes of blocks.
func ends(t *testing.T, s string, state int, value api.Word, fault api.Errno) {
	t.Helper()
	m := begun(t, s)
	m.Run(100)
	if m.State() != state || m.Value() != value || m.Fault() != fault {
		t.Errorf("%s: %d, %d, %d, not %d, %d, %d", s, m.State(), uint64(m.Value()), m.Fault(), state, uint64(value), fault)
	}
}

func fieldsOf(a *arena.Arena, w api.Word) []api.Word {
	l := make([]api.Word, a.Len(w))
	for i := range l {
		l[i], _ = a.Get(w, i)
	}
	return l
}

// isObject asks for an object of a kind with some fields.
func isObject(t *testing.T, a *arena.Arena, w api.Word, kind int, fields ...api.Word) {
	t.Helper()
	if a.Kind(w) != kind || !slices.Equal(fieldsOf(a, w), fields) {
		t.Errorf("%d is of kind %d, %v, not %d, %v", uint64(w), a.Kind(w), fieldsOf(a, w), kind, fields)
	}
}

func live(t *testing.T, m *vm.Machine, want int) {
	t.Helper()
	if n := m.Live(); n != want {
		t.Errorf("%d words are reached, not %d", n, want)
	}
}

func used(t *testing.T, m *vm.Machine, want int) {
	t.Helper()
	if n := m.Arena().Used(); n != want {
		t.Errorf("%d words are used, not %d", n, want)
	}
}

func mustKeep(t *testing.T, m *vm.Machine, w api.Word) int {
	t.Helper()
	i, e := m.Keep(w)
	if e != okay {
		t.Fatal(uint64(w), e)
	}
	return i
}

func kept(t *testing.T, m *vm.Machine, i int) api.Word {
	t.Helper()
	w, e := m.Kept(i)
	if e != okay {
		t.Fatal(i, e)
	}
	return w
}

func mustCons(t *testing.T, m *vm.Machine, a, b api.Word) api.Word {
	t.Helper()
	w, e := m.Cons(a, b)
	if e != okay {
		t.Fatal(uint64(a), uint64(b), e)
	}
	return w
}

func mustSave(t *testing.T, m *vm.Machine) api.Word {
	t.Helper()
	w, e := m.Save()
	if e != okay {
		t.Fatal(e)
	}
	return w
}

// made is an object that is made in a machine's arena from elsewhere.
func made(t *testing.T, m *vm.Machine, kind int, fields ...api.Word) api.Word {
	t.Helper()
	w, e := m.Arena().Alloc(kind, fields...)
	if e != okay {
		t.Fatal(e)
	}
	return w
}

// compile is the blocks of a text, and its names.
func compile(t *testing.T, s string) ([]api.Block, *names.Names) {
	t.Helper()
	d, tops, i, e := read.Read(s)
	if e != okay {
		t.Fatal(s, i, e)
	}
	l, own, i, e := expand.Expand(d, tops)
	if e != okay {
		t.Fatal(s, i, e)
	}
	n := names.New()
	l, own, i, e = scope.Scope(d, l, own, n)
	if e != okay {
		t.Fatal(s, i, e)
	}
	b, e := gen.Gen(l, own)
	if e != okay {
		t.Fatal(s, e)
	}
	return b, n
}

// textMachine is a machine of a text, which began.
func textMachine(t *testing.T, s string, size int) (*vm.Machine, *names.Names) {
	t.Helper()
	b, n := compile(t, s)
	m := mustNew(t, b, size, n.Len())
	mustBegin(t, m, mustFn(t, m))
	return m, n
}

const (
	return5 = "word 40; ret"
	// ask asks for the time, so that the machine stops there.
	ask = "prim 30 0"
)

package scope_test

import (
	"math"
	"math/rand"
	"runtime/debug"
	"slices"
	"strconv"
	"strings"
	"testing"
	"unsafe"

	"eddywheel/api"
	"eddywheel/expand"
	"eddywheel/names"
	"eddywheel/read"
	"eddywheel/scope"
)

// Written out, so that a limit or a number that moves is seen.
const (
	mostNames = 4096
	mostBytes = 32
	greatest  = 1<<40 - 1

	isNil   = 2
	isFalse = 10
	isTrue  = 18

	add, less, same, isNot, cons, car, callCC = 1, 6, 8, 9, 12, 13, 18
	out, after, promise, then, time           = 19, 22, 24, 26, 30
)

type primitive struct {
	name string
	many int
}

// primitives are those of the document, in the order of their numbers, from 1 on.
func primitives() []primitive {
	return []primitive{
		{"+", 2}, {"-", 2}, {"*", 2}, {"quotient", 2}, {"remainder", 2}, {"<", 2}, {"=", 2}, {"eq?", 2},
		{"not", 1}, {"null?", 1}, {"pair?", 1},
		{"cons", 2},
		{"car", 1}, {"cdr", 1}, {"number?", 1}, {"symbol?", 1}, {"procedure?", 1},
		{"call/cc", 1},
		{"out", 1}, {"spawn", 1}, {"micro", 1},
		{"after", 2},
		{"cancel", 1},
		{"promise", 0},
		{"settle", 2}, {"then", 2},
		{"stream", 1},
		{"write", 2},
		{"read", 1},
		{"time", 0},
	}
}

func primitiveOf(s string) (op, many int, ok bool) {
	for i, p := range primitives() {
		if p.name == s {
			return i + 1, p.many, true
		}
	}
	return 0, 0, false
}

// A datum is made as the document tells it.

func number(at, n int) api.Node { return api.Node{Kind: api.DatInt, At: at, N: n} }

func boolean(at, n int) api.Node { return api.Node{Kind: api.DatBool, At: at, N: n} }

func name(at int, s string) api.Node { return api.Node{Kind: api.DatName, At: at, S: s} }

func list(at int, l ...int) api.Node { return api.Node{Kind: api.DatList, At: at, L: l} }

func data(l ...api.Node) []api.Node { return l }

// And so is a form that is not resolved.

func foInt(at, n int) api.Form { return api.Form{Kind: api.FoInt, At: at, N: n} }

func foBool(at, n int) api.Form { return api.Form{Kind: api.FoBool, At: at, N: n} }

func foQuote(at, n int) api.Form { return api.Form{Kind: api.FoQuote, At: at, N: n} }

func foName(at int, s string) api.Form { return api.Form{Kind: api.FoName, At: at, S: s} }

func foLambda(at, body int, names ...string) api.Form {
	return api.Form{Kind: api.FoFn, At: at, P: names, L: []int{body}}
}

func foSet(at int, s string, i int) api.Form {
	return api.Form{Kind: api.FoSet, At: at, S: s, L: []int{i}}
}

func foDefine(at int, s string, i int) api.Form {
	return api.Form{Kind: api.FoDef, At: at, S: s, L: []int{i}}
}

// These are the same when they are resolved.

func foIf(at int, l ...int) api.Form { return api.Form{Kind: api.FoIf, At: at, L: l} }

func foSeq(at int, l ...int) api.Form { return api.Form{Kind: api.FoSeq, At: at, L: l} }

func foCall(at int, l ...int) api.Form { return api.Form{Kind: api.FoCall, At: at, L: l} }

// And these are forms that are resolved.

func word(at int, w api.Word) api.Form { return api.Form{Kind: api.FoConst, At: at, W: w} }

func integer(at, n int) api.Form { return word(at, api.Word(n)<<3) }

func symbol(at, n int) api.Form { return word(at, api.Word(n)<<3|3) }

func local(at, a, n int) api.Form { return api.Form{Kind: api.FoLocal, At: at, A: a, N: n} }

func global(at int, s string, n int) api.Form {
	return api.Form{Kind: api.FoName, At: at, S: s, N: n}
}

func fn(at, many, body int) api.Form {
	return api.Form{Kind: api.FoFn, At: at, N: many, L: []int{body}}
}

func setLocal(at, a, n, i int) api.Form {
	return api.Form{Kind: api.FoSet, At: at, A: a, N: n, L: []int{i}}
}

func setGlobal(at int, s string, n, i int) api.Form {
	return api.Form{Kind: api.FoSet, At: at, A: -1, S: s, N: n, L: []int{i}}
}

func define(at int, s string, n, i int) api.Form {
	return api.Form{Kind: api.FoDef, At: at, S: s, N: n, L: []int{i}}
}

func prim(at, op int, l ...int) api.Form {
	return api.Form{Kind: api.FoPrim, At: at, N: op, L: l}
}

func forms(l ...api.Form) []api.Form { return l }

func tops(l ...int) []int { return l }

func known(l ...string) []string { return l }

func sameForm(a, b api.Form) bool {
	return a.Kind == b.Kind && a.At == b.At && a.N == b.N && a.A == b.A && a.S == b.S && a.W == b.W && slices.Equal(a.P, b.P) && slices.Equal(a.L, b.L)
}

func sameNode(a, b api.Node) bool {
	return a.Kind == b.Kind && a.At == b.At && a.N == b.N && a.S == b.S && slices.Equal(a.L, b.L)
}

func copyData(l []api.Node) []api.Node {
	l = slices.Clone(l)
	for i := range l {
		l[i].L = slices.Clone(l[i].L)
	}
	return l
}

func copyForms(l []api.Form) []api.Form {
	l = slices.Clone(l)
	for i := range l {
		l[i].L, l[i].P = slices.Clone(l[i].L), slices.Clone(l[i].P)
	}
	return l
}

func table(t *testing.T, l []string) *names.Names {
	t.Helper()
	n := names.New()
	for i, s := range l {
		if k, e := n.Put(s); k != i || e != api.OK {
			t.Fatal(s, k, e)
		}
	}
	return n
}

func texts(n *names.Names) []string {
	var l []string
	for i := range n.Len() {
		s, _ := n.Text(i)
		l = append(l, s)
	}
	return l
}

// answer is what Scope has to answer, and what names there have to be then.
type answer struct {
	forms []api.Form
	tops  []int
	at    int
	e     api.Errno
	names []string
}

func right(f []api.Form, own []int, names ...string) answer {
	return answer{forms: f, tops: own, names: names}
}

func wrong(at int, e api.Errno, names ...string) answer {
	return answer{at: at, e: e, names: names}
}

// answers tells whether Scope answers this with a table of these names, in new tables and in one that has the names already, and leaves what it is given as it is.
func answers(t *testing.T, d []api.Node, l []api.Form, own []int, before []string, want answer) {
	t.Helper()
	oldD, oldL, oldOwn := copyData(d), copyForms(l), slices.Clone(own)
	n := table(t, before)
	for i, n := range []*names.Names{n, n, table(t, before)} {
		f, made, at, e := scope.Scope(d, l, own, n)
		if !slices.EqualFunc(f, want.forms, sameForm) || !slices.Equal(made, want.tops) || at != want.at || e != want.e {
			t.Fatalf("%d: %v, %v, %v: %v, %v, %d, %d, not %v", i, d, l, own, f, made, at, e, want)
		}
		if !slices.Equal(texts(n), want.names) {
			t.Fatalf("%d: %v, %v, %v: the names are %q, not %q", i, d, l, own, texts(n), want.names)
		}
	}
	if !slices.EqualFunc(d, oldD, sameNode) || !slices.EqualFunc(l, oldL, sameForm) || !slices.Equal(own, oldOwn) {
		t.Fatalf("%v, %v, %v, before %v, %v, %v", d, l, own, oldD, oldL, oldOwn)
	}
}

func expanded(t *testing.T, s string) ([]api.Node, []api.Form, []int) {
	t.Helper()
	d, at, wrong, e := read.Read(s)
	if e != api.OK {
		t.Fatal(s, wrong, e)
	}
	l, own, wrong, e := expand.Expand(d, at)
	if e != api.OK {
		t.Fatal(s, wrong, e)
	}
	return d, l, own
}

// becomes tells whether a text becomes these forms and these names. The forms that are parts of none stand by themselves.
func becomes(t *testing.T, s string, names []string, want ...api.Form) {
	t.Helper()
	part := map[int]int{}
	for _, f := range want {
		for _, i := range f.L {
			part[i]++
		}
	}
	var top []int
	for i := range want {
		if part[i] == 0 {
			top = append(top, i)
		}
	}
	d, l, own := expanded(t, s)
	answers(t, d, l, own, nil, right(want, top, names...))
}

// wrongAtMark tells whether a text is wrong at its mark, which is taken out, when these names are put.
func wrongAtMark(t *testing.T, marked string, e api.Errno, names ...string) {
	t.Helper()
	at := strings.IndexByte(marked, '@')
	if at < 0 {
		t.Fatal("no mark", marked)
	}
	d, l, own := expanded(t, marked[:at]+marked[at+1:])
	answers(t, d, l, own, nil, wrong(at, e, names...))
}

func TestP9_1_Primitives(t *testing.T) {
	for range 2 {
		for i, p := range primitives() {
			if op, many, ok := scope.Prim(p.name); op != i+1 || many != p.many || !ok {
				t.Error(p, op, many, ok)
			}
		}
	}
	for i, c := range []int{api.PrAdd, api.PrSub, api.PrMul, api.PrQuo, api.PrRem, api.PrLess, api.PrEqual, api.PrSame, api.PrNot, api.PrNull, api.PrPair, api.PrCons, api.PrCar, api.PrCdr, api.PrInt, api.PrName, api.PrFn, api.PrCC, api.HoOut, api.HoSpawn, api.HoMicro, api.HoAfter, api.HoCancel, api.HoPromise, api.HoSettle, api.HoThen, api.HoStream, api.HoWrite, api.HoRead, api.HoTime} {
		if op, _, ok := scope.Prim(primitives()[i].name); op != c || !ok {
			t.Error(i, op, c)
		}
	}
}

func TestP9_1_NamesThatAreNone(t *testing.T) {
	none := []string{"", " ", "x", "f", "/", "%", ">", "<=", "eq", "equal?", "list", "null", "pair", "symbol", "number", "int?", "callcc", "call", "cc", "print", "if", "let", "lambda", "define", "quote", "set!", "else", "#t", "1", "()", "\x00", "promise?", "read-char", "clock", "cadr", "++", strings.Repeat("car", 50)}
	for _, p := range primitives() {
		s := p.name
		none = append(none, s+" ", " "+s, s+"\x00", s+"x", "x"+s, s+s, s+"'", s+"!", s+"?")
		if up := strings.ToUpper(s); up != s {
			none = append(none, up, up[:1]+s[1:])
		}
		if short := s[:len(s)-1]; !slices.ContainsFunc(primitives(), func(p primitive) bool { return p.name == short }) {
			none = append(none, short)
		}
		none = append(none, s[1:])
	}
	for _, s := range none {
		if op, many, ok := scope.Prim(s); op != 0 || many != 0 || ok {
			t.Errorf("%q: %d, %d", s, op, many)
		}
	}
}

// broken are rows of data that are not valid.
func broken() [][]api.Node {
	a, b := name(0, "a"), number(0, 2)
	return [][]api.Node{
		{{}},
		{{Kind: 5}},
		{{Kind: 255}},
		{a, {Kind: 0, S: "a"}},
		{{Kind: api.DatInt, At: -1}},
		{a, {Kind: api.DatName, S: "b", At: math.MinInt}},
		{boolean(0, 2)},
		{boolean(0, -1), a},
		{{Kind: api.DatInt, S: "a"}},
		{{Kind: api.DatBool, S: "a"}},
		{{Kind: api.DatName, S: "a", N: 1}},
		{{Kind: api.DatList, N: 1}},
		{{Kind: api.DatList, S: "a"}},
		{a, {Kind: api.DatInt, L: []int{0}}},
		{list(0, 0)},
		{list(0, 1), a},
		{a, list(0, 1)},
		{a, list(0, 2)},
		{a, list(0, -1)},
		{a, list(0, math.MinInt)},
		{a, list(0, math.MaxInt)},
		{a, list(0, 0, 0)},
		{a, list(0, 0), list(0, 0)},
		{a, b, list(0, 0, 1), list(0, 2, 1)},
		{list(0), list(9, 7)},
	}
}

// refused tells whether these are an error, whatever names there are, and leave them.
func refused(t *testing.T, d []api.Node, l []api.Form, own []int) {
	t.Helper()
	for _, before := range [][]string{nil, known("x", "z")} {
		answers(t, d, l, own, before, wrong(0, api.ErrArg, before...))
	}
	f, made, at, e := scope.Scope(d, l, own, nil)
	if len(f) != 0 || len(made) != 0 || at != 0 || e != api.ErrArg {
		t.Fatal(f, made, at, e)
	}
}

func TestP9_2_DataThatAreNotValid(t *testing.T) {
	for _, d := range broken() {
		refused(t, d, nil, nil)
		refused(t, d, forms(foInt(4, 1)), tops(0))
		refused(t, d, forms(foQuote(4, 0)), tops(0))
		refused(t, d, forms(foName(4, "nowhere")), tops(0))
		refused(t, d, forms(foInt(5, 1), foDefine(4, "x", 0)), tops(1))
	}
}

func TestP9_2_NoTable(t *testing.T) {
	for _, s := range []string{"", "1", "'a", "(define x 1)", "nowhere", "car", "(car)", "(lambda (x) x)"} {
		d, l, own := expanded(t, s)
		f, made, at, e := scope.Scope(d, l, own, nil)
		if len(f) != 0 || len(made) != 0 || at != 0 || e != api.ErrArg {
			t.Error(s, f, made, at, e)
		}
	}
}

// A table that New did not make is one with no names.
func TestP9_2_ATableThatIsZero(t *testing.T) {
	d, l, own := expanded(t, "(define x 'y)")
	n := &names.Names{}
	f, made, at, e := scope.Scope(d, l, own, n)
	if !slices.EqualFunc(f, forms(symbol(10, 1), define(0, "x", 0, 0)), sameForm) || !slices.Equal(made, tops(1)) || at != 0 || e != api.OK || !slices.Equal(texts(n), known("x", "y")) {
		t.Error(f, made, at, e, texts(n))
	}
}

func far(count int) []int {
	return []int{math.MinInt, math.MinInt + 1, -1 << 32, -1<<32 + 1, -256, -2, -1, count, count + 1, 256, 1 << 32, 1<<32 + 1, math.MaxInt}
}

func TestP9_2_TopsThatAreNone(t *testing.T) {
	for _, l := range [][]api.Form{nil, {}, forms(foInt(4, 1)), forms(foInt(5, 1), foDefine(4, "x", 0)), forms(foName(3, "nowhere"), foBool(4, 1))} {
		for _, i := range far(len(l)) {
			refused(t, nil, l, tops(i))
			if len(l) > 0 {
				last := len(l) - 1
				refused(t, nil, l, tops(last, i))
				refused(t, nil, l, tops(i, last))
				refused(t, data(name(0, "a")), l, tops(i, last))
			}
		}
	}
	refused(t, nil, forms(foInt(4, 1), foInt(5, 2))[:1], tops(1))
}

func TestP9_2_TopsTwice(t *testing.T) {
	l := forms(foInt(1, 1), foInt(2, 2), foDefine(3, "x", 1))
	refused(t, nil, l, tops(0, 0))
	refused(t, nil, l, tops(2, 2))
	refused(t, nil, l, tops(0, 2, 0))
	refused(t, nil, l, tops(2, 0, 2))
	refused(t, nil, l, tops(0, 2, 2))
	answers(t, nil, l, tops(2, 0), nil, right(forms(integer(2, 2), define(3, "x", 0, 0), integer(1, 1)), tops(1, 2), "x"))
}

func TestP9_2_PartsInTops(t *testing.T) {
	l := forms(foInt(1, 1), foInt(2, 2), foInt(3, 3), foIf(4, 0, 1, 2))
	for i := range 3 {
		refused(t, nil, l, tops(i))
		refused(t, nil, l, tops(3, i))
		refused(t, nil, l, tops(i, 3))
	}
	for _, f := range []api.Form{foLambda(4, 0, "x"), foSet(4, "x", 0), foDefine(4, "x", 0), foSeq(4, 0), foCall(4, 0)} {
		refused(t, nil, forms(foInt(1, 1), f), tops(0))
		refused(t, nil, forms(foInt(1, 1), f), tops(1, 0))
		refused(t, nil, forms(foInt(1, 1), f), tops(0, 1))
	}
}

func TestP9_2_PartsThatAreNotAhead(t *testing.T) {
	for _, i := range append(far(3), 3, 2) {
		for _, f := range []api.Form{foIf(9, 0, 1, i), foIf(9, i, 0, 1), foIf(9, 0, i, 1), foLambda(9, i), foLambda(9, i, "x"), foSet(9, "x", i), foDefine(9, "x", i), foSeq(9, i), foSeq(9, 0, i), foSeq(9, i, 1), foCall(9, i), foCall(9, 0, i), foCall(9, i, 0)} {
			refused(t, nil, forms(foInt(1, 1), foInt(2, 2), f), tops(2))
			refused(t, nil, forms(foInt(1, 1), foInt(2, 2), f, foInt(3, 3)), tops(2))
			refused(t, nil, forms(foInt(1, 1), foInt(2, 2), f, foInt(3, 3)), tops(3))
			refused(t, nil, forms(foInt(1, 1), foInt(2, 2), f), nil)
		}
	}
	// One that is its own part, and two that are each other's.
	for _, kind := range []uint8{api.FoFn, api.FoSet, api.FoDef, api.FoSeq, api.FoCall} {
		refused(t, nil, forms(api.Form{Kind: kind, L: []int{0}, S: "x"}), tops(0))
		refused(t, nil, forms(api.Form{Kind: kind, L: []int{1}, S: "x"}, api.Form{Kind: kind, L: []int{0}, S: "x"}), tops(1))
	}
}

func TestP9_2_PartsTwice(t *testing.T) {
	one, two, three := foInt(1, 1), foInt(2, 2), foInt(3, 3)
	for _, f := range []api.Form{foIf(9, 0, 0, 1), foIf(9, 0, 1, 0), foIf(9, 1, 0, 0), foSeq(9, 0, 0), foSeq(9, 0, 1, 1), foCall(9, 1, 1), foCall(9, 0, 1, 0)} {
		refused(t, nil, forms(one, two, f), tops(2))
		refused(t, nil, forms(one, two, f), nil)
	}
	for _, f := range []api.Form{foIf(9, 0, 1, 2), foIf(9, 2, 1, 0), foLambda(9, 1), foLambda(9, 0), foSet(9, "x", 1), foDefine(9, "x", 0), foSeq(9, 2, 0), foCall(9, 2, 1), foCall(9, 1)} {
		refused(t, nil, forms(one, two, foSeq(8, 0, 1), f), tops(3))
		refused(t, nil, forms(one, two, foSeq(8, 0, 1), f), tops(2, 3))
		refused(t, nil, forms(one, two, foSeq(8, 0, 1), three, f), tops(3))
	}
}

func TestP9_2_FewerPartsThanAKindRequires(t *testing.T) {
	with := func(kind uint8, l ...int) api.Form { return api.Form{Kind: kind, At: 9, S: "x", L: l} }
	for _, f := range []api.Form{with(api.FoIf), with(api.FoIf, 0), with(api.FoIf, 0, 1), with(api.FoFn), with(api.FoSet), with(api.FoDef), with(api.FoCall), {Kind: api.FoFn, P: []string{"x"}}} {
		if f.Kind != api.FoSet && f.Kind != api.FoDef {
			f.S = ""
		}
		refused(t, nil, forms(foInt(1, 1), foInt(2, 2), f), tops(2))
		refused(t, nil, forms(foInt(1, 1), foInt(2, 2), f), nil)
		refused(t, nil, forms(foName(1, "nowhere"), foInt(2, 2), f, foInt(3, 3)), tops(3))
		f.L = append(f.L, slices.Repeat([]int{math.MaxInt}, 5)...)[:len(f.L)]
		refused(t, nil, forms(foInt(1, 1), foInt(2, 2), f), tops(2))
	}
	answers(t, nil, forms(foSeq(4)), tops(0), nil, right(forms(foSeq(4)), tops(0)))
}

func TestP9_2_QuotesOfDataThatAreNotThere(t *testing.T) {
	for _, d := range [][]api.Node{nil, {}, data(number(1, 1)), data(name(1, "a"), list(0, 0))} {
		for _, i := range far(len(d)) {
			refused(t, d, forms(foQuote(4, i)), tops(0))
			refused(t, d, forms(foQuote(4, i)), nil)
			refused(t, d, forms(foName(3, "nowhere"), foQuote(4, i)), tops(0))
			refused(t, d, forms(foQuote(4, i), foDefine(3, "x", 0)), tops(1))
		}
	}
	refused(t, data(number(1, 1), number(2, 2))[:1], forms(foQuote(4, 1)), tops(0))
}

// What a call refuses comes ahead of what is wrong in the forms.
func TestP9_2_ArgumentsComeAheadOfForms(t *testing.T) {
	for _, f := range []api.Form{foName(4, "nowhere"), foName(4, "car"), foInt(4, math.MaxInt)} {
		refused(t, nil, forms(f), tops(0, 0))
		refused(t, nil, forms(f), tops(0, 1))
		refused(t, nil, forms(f, foCall(5)), tops(0))
		refused(t, data(list(0, 0)), forms(f), tops(0))
	}
}

func TestP9_2_NoForms(t *testing.T) {
	answers(t, nil, nil, nil, nil, right(nil, nil))
	answers(t, data(), forms(), tops(), known("a"), right(nil, nil, "a"))
	answers(t, data(name(1, "a"), list(0, 0)), nil, nil, nil, right(nil, nil))
	becomes(t, " ; nothing", nil)
}

// What stands in no top is not resolved, but it may define a name.
func TestP9_2_OnlyTheTopsAreResolved(t *testing.T) {
	l := forms(foName(1, "nowhere"), foInt(2, 5), foInt(3, 1), foDefine(4, "x", 2), foName(5, "x"))
	answers(t, nil, l, tops(1), nil, right(forms(integer(2, 5)), tops(0)))
	answers(t, nil, l, tops(4), nil, right(forms(global(5, "x", 0)), tops(0), "x"))
	answers(t, nil, l, nil, nil, right(nil, nil))
	answers(t, nil, l, tops(4, 0), nil, wrong(1, api.ErrName, "x"))
}

func TestP9_2_TheTopsInTheirOrder(t *testing.T) {
	d, l, own := expanded(t, "1 (f 2) (define f 'a) 'b")
	answers(t, d, l, own, nil, right(forms(integer(0, 1), global(3, "f", 0), integer(5, 2), foCall(2, 1, 2), symbol(18, 1), define(8, "f", 0, 4), symbol(22, 2)), tops(0, 3, 5, 6), "f", "a", "b"))
	slices.Reverse(own)
	answers(t, d, l, own, nil, right(forms(symbol(22, 0), symbol(18, 2), define(8, "f", 1, 1), global(3, "f", 1), integer(5, 2), foCall(2, 3, 4), integer(0, 1)), tops(0, 2, 5, 6), "b", "f", "a"))
}

// The same datum may be a form more than once.
func TestP9_2_DataThatAreExpandedTwice(t *testing.T) {
	d, at, _, _ := read.Read("'(a)")
	l, own, _, e := expand.Expand(d, append(at, at[0]))
	if e != api.OK {
		t.Fatal(e)
	}
	answers(t, d, l, own, nil, right(forms(symbol(0, 0), word(0, isNil), prim(0, cons, 0, 1), symbol(0, 0), word(0, isNil), prim(0, cons, 3, 4)), tops(2, 5), "a"))
}

// The parts come in the order of L, which needs not be that of the row.
func TestP9_2_TheOrderIsThatOfTheParts(t *testing.T) {
	l := forms(foInt(1, 1), foInt(2, 2), foInt(3, 3), foIf(4, 2, 0, 1))
	answers(t, nil, l, tops(3), nil, right(forms(integer(3, 3), integer(1, 1), integer(2, 2), foIf(4, 0, 1, 2)), tops(3)))
	l = forms(foInt(1, 1), foName(2, "car"), foInt(3, 3), foDefine(4, "x", 2), foCall(5, 1, 0))
	answers(t, nil, l, tops(4, 3), nil, right(forms(integer(1, 1), prim(5, car, 0), integer(3, 3), define(4, "x", 0, 2)), tops(1, 3), "x"))
}

// The names that are in the table keep their numbers.
func TestP9_2_NamesThatAreThereAlready(t *testing.T) {
	d, l, own := expanded(t, "(define a 'b) (set! c a) (define c 'd)")
	want := func(a, b, c, d int) []api.Form {
		return forms(symbol(10, b), define(0, "a", a, 0), global(22, "a", a), setGlobal(14, "c", c, 2), symbol(35, d), define(25, "c", c, 4))
	}
	answers(t, d, l, own, nil, right(want(0, 1, 2, 3), tops(1, 3, 5), "a", "b", "c", "d"))
	answers(t, d, l, own, known("x", "c", "y"), right(want(3, 4, 1, 5), tops(1, 3, 5), "x", "c", "y", "a", "b", "d"))
	answers(t, d, l, own, known("d", "c", "b", "a"), right(want(3, 2, 1, 0), tops(1, 3, 5), "d", "c", "b", "a"))
	// A name in the table is not one of the program for that.
	d, l, own = expanded(t, "x")
	answers(t, d, l, own, known("x"), wrong(0, api.ErrName, "x"))
	d, l, own = expanded(t, " (car 1)")
	answers(t, d, l, own, known("car"), right(forms(integer(6, 1), prim(1, car, 0)), tops(1), "car"))
}

// What has no word, or no number in the table, is wrong where it stands.
func TestP9_2_WhatHasNoWordOrNumber(t *testing.T) {
	for _, n := range []int{greatest + 1, -greatest - 1, 1 << 61, math.MaxInt, math.MinInt} {
		answers(t, nil, forms(foInt(3, 1), foInt(4, n)), tops(0, 1), nil, wrong(4, api.ErrOver))
		answers(t, data(number(9, n)), forms(foQuote(4, 0)), tops(0), nil, wrong(4, api.ErrOver))
		answers(t, data(name(9, "a"), number(9, n), list(8, 0, 1)), forms(foQuote(4, 2)), tops(0), nil, wrong(4, api.ErrOver, "a"))
	}
	most, long := strings.Repeat("n", mostBytes), strings.Repeat("n", mostBytes+1)
	answers(t, nil, forms(foInt(3, 1), foDefine(4, most, 0)), tops(1), nil, right(forms(integer(3, 1), define(4, most, 0, 0)), tops(1), most))
	answers(t, nil, forms(foName(3, "nowhere"), foDefine(4, long, 0)), tops(1), nil, wrong(4, api.ErrArg))
	answers(t, nil, forms(foName(3, long), foInt(5, 1), foDefine(4, long, 1)), tops(0, 2), nil, wrong(3, api.ErrArg))
	answers(t, nil, forms(foName(3, "nowhere"), foSet(6, long, 0), foInt(5, 1), foDefine(4, long, 2)), tops(1, 3), nil, wrong(6, api.ErrArg))
	for _, s := range []string{"", long} {
		answers(t, nil, forms(foName(3, s)), tops(0), nil, wrong(3, api.ErrName))
		answers(t, data(name(9, s)), forms(foQuote(4, 0)), tops(0), nil, wrong(4, api.ErrArg))
		answers(t, data(name(9, "a"), name(9, s), list(8, 0, 1)), forms(foQuote(4, 2)), tops(0), nil, wrong(4, api.ErrArg, "a"))
	}
	// A name that a function binds needs no number.
	answers(t, nil, forms(foName(3, long), foLambda(4, 0, long)), tops(1), nil, right(forms(local(3, 0, 0), fn(4, 1, 0)), tops(1)))
}

func TestP9_2_ATableThatIsFull(t *testing.T) {
	var all []string
	for i := range mostNames {
		all = append(all, "n"+strconv.Itoa(i))
	}
	for _, x := range []struct {
		s  string
		at int
	}{
		{" (define x nowhere)", 1}, {" (set! x nowhere) (define x 1)", 1}, {"(if 1 x) (define x 1)", 6}, {"(define n1 1) (n1 'x)", 18}, {" '(n3 x)", 1},
	} {
		d, l, own := expanded(t, x.s)
		answers(t, d, l, own, all, wrong(x.at, api.ErrLong, all...))
	}
	d, l, own := expanded(t, "(define n4095 '(n0 n1)) ((lambda (x) x) n4095)")
	n := table(t, all)
	if f, _, at, e := scope.Scope(d, l, own, n); len(f) != 10 || at != 0 || e != api.OK || n.Len() != mostNames {
		t.Error(f, at, e)
	}
}

func TestP9_2_TheProgramsNames(t *testing.T) {
	// Ahead of where they are used, behind it, and far behind.
	becomes(t, "(define x 1) x", known("x"), integer(10, 1), define(0, "x", 0, 0), global(13, "x", 0))
	becomes(t, "x (define x 1)", known("x"), global(0, "x", 0), integer(12, 1), define(2, "x", 0, 1))
	becomes(t, "(define (f) (g)) (define (g) (f))", known("f", "g"), global(13, "g", 1), foCall(12, 0), fn(0, 0, 1), define(0, "f", 0, 2), global(30, "f", 0), foCall(29, 4), fn(17, 0, 5), define(17, "g", 1, 6))
	becomes(t, "(define (f) f)", known("f"), global(12, "f", 0), fn(0, 0, 0), define(0, "f", 0, 1))
	becomes(t, "(define x x)", known("x"), global(10, "x", 0), define(0, "x", 0, 0))
	// Twice.
	becomes(t, "(define x 1) (define x 2) x", known("x"), integer(10, 1), define(0, "x", 0, 0), integer(23, 2), define(13, "x", 0, 2), global(26, "x", 0))
	becomes(t, "y (define x 1) (define y x) (define x y)", known("y", "x"), global(0, "y", 0), integer(12, 1), define(2, "x", 1, 1), global(25, "x", 1), define(15, "y", 0, 3), global(38, "y", 0), define(28, "x", 1, 5))
}

func TestP9_2_NamesOfFunctions(t *testing.T) {
	// Each place of a list.
	becomes(t, "(lambda (a b c) a)", nil, local(16, 0, 0), fn(0, 3, 0))
	becomes(t, "(lambda (a b c) b)", nil, local(16, 0, 1), fn(0, 3, 0))
	becomes(t, "(lambda (a b c) c)", nil, local(16, 0, 2), fn(0, 3, 0))
	// The innermost, one further out, and further; lists without names count, too.
	becomes(t, "(lambda (a b) (lambda (c) c))", nil, local(26, 0, 0), fn(14, 1, 0), fn(0, 2, 1))
	becomes(t, "(lambda (a b) (lambda (c) b))", nil, local(26, 1, 1), fn(14, 1, 0), fn(0, 2, 1))
	becomes(t, "(lambda (a b) (lambda () b))", nil, local(25, 1, 1), fn(14, 0, 0), fn(0, 2, 1))
	becomes(t, "(lambda (a b) (lambda () (lambda (c) (lambda () b))))", nil, local(48, 3, 1), fn(37, 0, 0), fn(25, 1, 1), fn(14, 0, 2), fn(0, 2, 3))
	// In several at once.
	becomes(t, "(lambda (a b) (lambda (b) b))", nil, local(26, 0, 0), fn(14, 1, 0), fn(0, 2, 1))
	becomes(t, "(lambda (b a) (lambda (b) a))", nil, local(26, 1, 1), fn(14, 1, 0), fn(0, 2, 1))
	becomes(t, "(lambda (a) (lambda (b a) (lambda (c) a)))", nil, local(38, 1, 1), fn(26, 1, 0), fn(12, 2, 1), fn(0, 1, 2))
	// Behind a function, its names are gone, and the ones that they hid are back.
	becomes(t, "(lambda (a) ((lambda (b a) a) a))", nil, local(27, 0, 1), fn(13, 2, 0), local(30, 0, 0), foCall(12, 1, 2), fn(0, 1, 3))
	becomes(t, "(lambda (a) (lambda (b) (lambda (a) a) a) a)", nil, local(36, 0, 0), fn(24, 1, 0), local(39, 1, 0), foSeq(12, 1, 2), fn(12, 1, 3), local(42, 0, 0), foSeq(0, 4, 5), fn(0, 1, 6))
	wrongAtMark(t, "((lambda (x) x) @x)", api.ErrName)
	wrongAtMark(t, "(lambda (x) x) @x", api.ErrName)
	wrongAtMark(t, "(lambda (x) ((lambda (y) y) @y))", api.ErrName)
	becomes(t, "(define x 1) ((lambda (x) x) x)", known("x"), integer(10, 1), define(0, "x", 0, 0), local(26, 0, 0), fn(14, 1, 2), global(29, "x", 0), foCall(13, 3, 4))
}

func TestP9_2_AFunctionHidesTheProgramsNames(t *testing.T) {
	becomes(t, "(define x 1) (lambda (x) x)", known("x"), integer(10, 1), define(0, "x", 0, 0), local(25, 0, 0), fn(13, 1, 2))
	becomes(t, "(define (x x) x)", known("x"), local(14, 0, 0), fn(0, 1, 0), define(0, "x", 0, 1))
	becomes(t, "(lambda (y) x) (define x 1)", known("x"), global(12, "x", 0), fn(0, 1, 0), integer(25, 1), define(15, "x", 0, 2))
}

// A name of the language that a function binds is as any other name, also where it is called.
func TestP9_2_AFunctionHidesThePrimitives(t *testing.T) {
	becomes(t, "(lambda (car) car)", nil, local(14, 0, 0), fn(0, 1, 0))
	becomes(t, "(lambda (car) (car))", nil, local(15, 0, 0), foCall(14, 0), fn(0, 1, 1))
	becomes(t, "(lambda (car) (car 1))", nil, local(15, 0, 0), integer(19, 1), foCall(14, 0, 1), fn(0, 1, 2))
	becomes(t, "(lambda (car) (car 1 2))", nil, local(15, 0, 0), integer(19, 1), integer(21, 2), foCall(14, 0, 1, 2), fn(0, 1, 3))
	becomes(t, "(lambda (car) (lambda () (car)))", nil, local(26, 1, 0), foCall(25, 0), fn(14, 0, 1), fn(0, 1, 2))
	becomes(t, "(lambda (car) (set! car 1))", nil, integer(24, 1), setLocal(14, 0, 0, 0), fn(0, 1, 1))
	becomes(t, "(lambda (cdr) (car cdr))", nil, local(19, 0, 0), prim(14, car, 0), fn(0, 1, 1))
	becomes(t, "((lambda (car) (car)) (car 1))", nil, local(16, 0, 0), foCall(15, 0), fn(1, 1, 1), integer(27, 1), prim(22, car, 3), foCall(0, 2, 4))
	wrongAtMark(t, "(lambda (car) car) @car", api.ErrPrim)
	wrongAtMark(t, "(lambda (car) (car)) @(car)", api.ErrPrim)
}

// A name of the language that the program defines is the program's elsewhere, but its definition is wrong when its turn comes.
func TestP9_2_TheProgramHidesThePrimitives(t *testing.T) {
	wrongAtMark(t, "@(define car 1)", api.ErrPrim)
	wrongAtMark(t, "car @(define car 1)", api.ErrPrim, "car")
	wrongAtMark(t, "(car) (car 1 2) @(define car 1)", api.ErrPrim, "car")
	wrongAtMark(t, "(set! car 1) @(define car 1)", api.ErrPrim, "car")
	wrongAtMark(t, "(define x car) @(define (car) 1)", api.ErrPrim, "x", "car")
	wrongAtMark(t, "(car @nowhere) (define car 1)", api.ErrName, "car")
	wrongAtMark(t, "@(define car x) (define x 1)", api.ErrPrim)
}

func TestP9_2_NamesThatAreNowhere(t *testing.T) {
	wrongAtMark(t, "@x", api.ErrName)
	wrongAtMark(t, "@(set! x 1)", api.ErrName)
	wrongAtMark(t, "(lambda (x y) @z)", api.ErrName)
	wrongAtMark(t, "(lambda (x y) @(set! z 1))", api.ErrName)
	wrongAtMark(t, "(define x 1) @y", api.ErrName, "x")
	wrongAtMark(t, "(define x 1) @(set! y 1)", api.ErrName, "x")
	wrongAtMark(t, "(@f)", api.ErrName)
	wrongAtMark(t, "(@f 1)", api.ErrName)
	wrongAtMark(t, "(define xx 1) (define X 1) @x", api.ErrName, "xx", "X")
	// What is quoted, or put, is none of the program's.
	wrongAtMark(t, "'x @x", api.ErrName, "x")
	// The name that an or keeps is nowhere else.
	d := data(name(5, " "))
	l, own, _, _ := expand.Expand(d, tops(0))
	answers(t, d, l, own, nil, wrong(5, api.ErrName))
}

func TestP9_2_WhichOneIsWrong(t *testing.T) {
	for _, s := range []string{
		"@x y", "(@x y)", "(if @x y z)", "(if 1 @x y)", "(if 1 2 @x) y", "(@f x y)", "(1 @x (car))", "(begin 1 @x y)", "((lambda () @x) y)", "((lambda (x) x) @y z)", "(or z @y)", "(let ((a x) (b y)) @z)", "(cond (@x y) (z 1))",
		// A set! is checked ahead of its part.
		"@(set! x y)", "@(set! x (car))", "(lambda (a) (set! a @x))", "(lambda (a) (set! a (f @x)) y) (define (f) 1)", "(lambda (a) @(set! b x))",
		// A call of what is no primitive is checked in its parts, the first of them first.
		"(@f car)", "(@f (car))", "((@f) x)", "((lambda (car) (car @x)) (car))",
	} {
		names := []string(nil)
		if strings.Contains(s, "(define (f) 1)") {
			names = known("f")
		}
		wrongAtMark(t, s, api.ErrName, names...)
	}
	for _, s := range []string{
		// A call of a primitive is checked ahead of its parts.
		"@(car)", "@(car x y)", "@(+ x)", "@(+ x y z)", "@(time x)", "@(cons (car) x y)", "(car @(car))", "(+ @car x)", "(+ 1 @car)", "@(+ (car))", "@(promise (set! x 1))", "(+ (car 1) @(cdr))", "(f @(car) x) (define f 1)",
		// A define is checked ahead of its part, and so is a set!.
		"@(define car x)", "@(define car (car))", "@(define (car) x)", "@(set! car x)", "@(set! car (car))", "(lambda (cdr) @(set! car x))", "(if 1 @car x)", "(@(car) x)", "(1 @car x)",
	} {
		names := []string(nil)
		if strings.Contains(s, "(define f 1)") {
			names = known("f")
		}
		wrongAtMark(t, s, api.ErrPrim, names...)
	}
	wrongAtMark(t, "(car @x)", api.ErrName)
	wrongAtMark(t, "(+ 1 @x)", api.ErrName)
	wrongAtMark(t, "(+ @x car)", api.ErrName)
	wrongAtMark(t, "(define x (car 1)) (define y @z)", api.ErrName, "x", "y")
	wrongAtMark(t, "(define x @(car 1 2)) y", api.ErrPrim, "x")
}

func TestP9_3_Numbers(t *testing.T) {
	for _, n := range []int{0, 1, -1, 12, -77, greatest, -greatest} {
		for _, at := range []int{0, 3, 4000, math.MaxInt} {
			answers(t, nil, forms(foInt(at, n)), tops(0), nil, right(forms(integer(at, n)), tops(0)))
		}
	}
	becomes(t, " -5", nil, word(1, 1<<64-40))
	becomes(t, "3", nil, word(0, 24))
}

func TestP9_3_Booleans(t *testing.T) {
	becomes(t, " #t", nil, word(1, isTrue))
	becomes(t, "#f", nil, word(0, isFalse))
	becomes(t, "(and)", nil, word(0, isTrue))
	becomes(t, "(or)", nil, word(0, isFalse))
}

func TestP9_3_IfAndSeq(t *testing.T) {
	becomes(t, "(if 1 2 3)", nil, integer(4, 1), integer(6, 2), integer(8, 3), foIf(0, 0, 1, 2))
	becomes(t, " (if #t '())", nil, word(5, isTrue), word(8, isNil), word(1, isFalse), foIf(1, 0, 1, 2))
	becomes(t, "(begin 1 (begin 2 3))", nil, integer(7, 1), integer(16, 2), integer(18, 3), foSeq(9, 1, 2), foSeq(0, 0, 3))
	becomes(t, "(if (if 1 2 3) (begin 4 5) 6)", nil, integer(8, 1), integer(10, 2), integer(12, 3), foIf(4, 0, 1, 2), integer(22, 4), integer(24, 5), foSeq(15, 4, 5), integer(27, 6), foIf(0, 3, 6, 7))
}

func TestP9_3_Functions(t *testing.T) {
	becomes(t, " (lambda () 1)", nil, integer(12, 1), fn(1, 0, 0))
	becomes(t, "(lambda (x) 1)", nil, integer(12, 1), fn(0, 1, 0))
	becomes(t, "(lambda (x y) 1 2)", nil, integer(14, 1), integer(16, 2), foSeq(0, 0, 1), fn(0, 2, 2))
	becomes(t, "(let ((x 1) (y 2)) y)", nil, local(19, 0, 1), fn(0, 2, 0), integer(9, 1), integer(15, 2), foCall(0, 1, 2, 3))
	becomes(t, "(let* ((x 1) (y x)) x)", nil, local(20, 1, 0), fn(0, 1, 0), local(16, 0, 0), foCall(0, 1, 2), fn(0, 1, 3), integer(10, 1), foCall(0, 4, 5))
	becomes(t, "(or 1 2)", nil, local(0, 0, 0), local(0, 0, 0), integer(6, 2), foIf(0, 0, 1, 2), fn(0, 1, 3), integer(4, 1), foCall(0, 4, 5))
	becomes(t, "(lambda (x) (or 1 x))", nil, local(12, 0, 0), local(12, 0, 0), local(18, 1, 0), foIf(12, 0, 1, 2), fn(12, 1, 3), integer(16, 1), foCall(12, 4, 5), fn(0, 1, 6))
	var many []string
	for i := range 100 {
		many = append(many, "n"+strconv.Itoa(i))
	}
	for i := range 100 {
		l := forms(foName(3, many[i]), foLambda(2, 0, many...))
		answers(t, nil, l, tops(1), nil, right(forms(local(3, 0, i), fn(2, 100, 0)), tops(1)))
	}
}

func TestP9_3_Set(t *testing.T) {
	becomes(t, "(lambda (x y) (set! y 1))", nil, integer(22, 1), setLocal(14, 0, 1, 0), fn(0, 2, 1))
	becomes(t, "(lambda (x y) (lambda () (set! x y)))", nil, local(33, 1, 1), setLocal(25, 1, 0, 0), fn(14, 0, 1), fn(0, 2, 2))
	becomes(t, "(define x 1) (set! x x)", known("x"), integer(10, 1), define(0, "x", 0, 0), global(21, "x", 0), setGlobal(13, "x", 0, 2))
	becomes(t, "(define x 1) (lambda (x) (set! x 2))", known("x"), integer(10, 1), define(0, "x", 0, 0), integer(33, 2), setLocal(25, 0, 0, 2), fn(13, 1, 3))
	becomes(t, "(define y 1) (define x 1) (lambda (y) (set! x 2))", known("y", "x"), integer(10, 1), define(0, "y", 0, 0), integer(23, 1), define(13, "x", 1, 2), integer(46, 2), setGlobal(38, "x", 1, 4), fn(26, 1, 5))
	becomes(t, "(set! x 1) (define x 2)", known("x"), integer(8, 1), setGlobal(0, "x", 0, 0), integer(21, 2), define(11, "x", 0, 2))
	for _, p := range primitives() {
		wrongAtMark(t, "@(set! "+p.name+" 1)", api.ErrPrim)
		wrongAtMark(t, "(define x 1) (f @(set! "+p.name+" 'a)) (define f 1)", api.ErrPrim, "x", "f")
	}
}

func TestP9_3_Define(t *testing.T) {
	becomes(t, "(define x 1)", known("x"), integer(10, 1), define(0, "x", 0, 0))
	becomes(t, " (define (f x) x)", known("f"), local(15, 0, 0), fn(1, 1, 0), define(1, "f", 0, 1))
	becomes(t, "(define b 1) (define a 2)", known("b", "a"), integer(10, 1), define(0, "b", 0, 0), integer(23, 2), define(13, "a", 1, 2))
	for _, p := range primitives() {
		wrongAtMark(t, "(define x 1) @(define "+p.name+" 2)", api.ErrPrim, "x")
		wrongAtMark(t, "@(define ("+p.name+" x) x)", api.ErrPrim)
	}
}

// A primitive by itself, in a call of too few, of as many, and of too many.
func TestP9_3_Primitives(t *testing.T) {
	for i, p := range primitives() {
		wrongAtMark(t, "@"+p.name, api.ErrPrim)
		wrongAtMark(t, "(1 @"+p.name+")", api.ErrPrim)
		wrongAtMark(t, "(lambda (x) @"+p.name+")", api.ErrPrim)
		for count := range 5 {
			s := "(" + p.name + strings.Repeat(" 1", count) + ")"
			if count != p.many {
				wrongAtMark(t, "@"+s, api.ErrPrim)
				wrongAtMark(t, "#t (if 1 @"+s+")", api.ErrPrim)
				continue
			}
			var f []api.Form
			var parts []int
			for k := range count {
				f = append(f, integer(2+len(p.name)+2*k, 1))
				parts = append(parts, k)
			}
			becomes(t, s, nil, append(f, prim(0, i+1, parts...))...)
		}
	}
	becomes(t, "(+ 1 (car 'a))", known("a"), integer(3, 1), symbol(10, 0), prim(5, car, 1), prim(0, add, 0, 2))
	becomes(t, "(lambda (x) (< x 1))", nil, local(15, 0, 0), integer(17, 1), prim(12, less, 0, 1), fn(0, 1, 2))
	becomes(t, "(call/cc (lambda (c) (c (time))))", nil, local(22, 0, 0), prim(24, time), foCall(21, 0, 1), fn(9, 1, 2), prim(0, callCC, 3))
	becomes(t, " (then (promise) (lambda (v) (out v)))", nil, prim(7, promise), local(34, 0, 0), prim(29, out, 1), fn(17, 1, 2), prim(1, then, 0, 3))
	becomes(t, "(after 5 (lambda () (not (eq? 1 2))))", nil, integer(7, 5), integer(30, 1), integer(32, 2), prim(25, same, 1, 2), prim(20, isNot, 3), fn(9, 0, 4), prim(0, after, 0, 5))
}

func TestP9_3_Calls(t *testing.T) {
	becomes(t, "(1)", nil, integer(1, 1), foCall(0, 0))
	becomes(t, "('car 1)", known("car"), symbol(1, 0), integer(6, 1), foCall(0, 0, 1))
	becomes(t, "((car 1) 2)", nil, integer(6, 1), prim(1, car, 0), integer(9, 2), foCall(0, 1, 2))
	becomes(t, "((lambda () 1))", nil, integer(12, 1), fn(1, 0, 0), foCall(0, 1))
	becomes(t, "(define (f) (f 1 f))", known("f"), global(13, "f", 0), integer(15, 1), global(17, "f", 0), foCall(12, 0, 1, 2), fn(0, 0, 3), define(0, "f", 0, 4))
	becomes(t, "((begin (lambda (x) x)) 1)", nil, local(20, 0, 0), fn(8, 1, 0), integer(24, 1), foCall(0, 1, 2))
	// Only the first part of a call may be a primitive's name.
	becomes(t, "((begin car) 1)", nil, integer(13, 1), prim(0, car, 0))
	wrongAtMark(t, "@((begin car))", api.ErrPrim)
	wrongAtMark(t, "((begin 1 @car) 1)", api.ErrPrim)
	wrongAtMark(t, "((if 1 @car car) 1)", api.ErrPrim)
}

func TestP9_3_TheExample(t *testing.T) {
	becomes(t, "(lambda (x) (+ x 1))", nil, local(15, 0, 0), integer(17, 1), prim(12, add, 0, 1), fn(0, 1, 2))
}

func TestP9_4_Quotes(t *testing.T) {
	becomes(t, "'5", nil, integer(0, 5))
	becomes(t, " (quote -5)", nil, integer(1, -5))
	becomes(t, "'#t", nil, word(0, isTrue))
	becomes(t, "'#f", nil, word(0, isFalse))
	becomes(t, "  'a", known("a"), symbol(2, 0))
	becomes(t, "'a 'b 'a", known("a", "b"), symbol(0, 0), symbol(3, 1), symbol(6, 0))
	becomes(t, "'()", nil, word(0, isNil))
	becomes(t, "(quote ())", nil, word(0, isNil))
	becomes(t, " '(1)", nil, integer(1, 1), word(1, isNil), prim(1, cons, 0, 1))
	becomes(t, "'(1 2 3)", nil, integer(0, 1), integer(0, 2), integer(0, 3), word(0, isNil), prim(0, cons, 2, 3), prim(0, cons, 1, 4), prim(0, cons, 0, 5))
	becomes(t, "'(#t b () #f)", known("b"), word(0, isTrue), symbol(0, 0), word(0, isNil), word(0, isFalse), word(0, isNil), prim(0, cons, 3, 4), prim(0, cons, 2, 5), prim(0, cons, 1, 6), prim(0, cons, 0, 7))
	becomes(t, "'((a) b)", known("a", "b"), symbol(0, 0), word(0, isNil), prim(0, cons, 0, 1), symbol(0, 1), word(0, isNil), prim(0, cons, 3, 4), prim(0, cons, 2, 5))
	becomes(t, "'(((1)))", nil, integer(0, 1), word(0, isNil), prim(0, cons, 0, 1), word(0, isNil), prim(0, cons, 2, 3), word(0, isNil), prim(0, cons, 4, 5))
	becomes(t, "'(())", nil, word(0, isNil), word(0, isNil), prim(0, cons, 0, 1))
	becomes(t, "''a", known("quote", "a"), symbol(0, 0), symbol(0, 1), word(0, isNil), prim(0, cons, 1, 2), prim(0, cons, 0, 3))
	becomes(t, "(car '(1))", nil, integer(5, 1), word(5, isNil), prim(5, cons, 0, 1), prim(0, car, 2))
}

// What is quoted refers to nothing.
func TestP9_4_QuotedNamesAreOnlyNames(t *testing.T) {
	becomes(t, "'car", known("car"), symbol(0, 0))
	becomes(t, "'(car)", known("car"), symbol(0, 0), word(0, isNil), prim(0, cons, 0, 1))
	becomes(t, "'(define x y)", known("define", "x", "y"), symbol(0, 0), symbol(0, 1), symbol(0, 2), word(0, isNil), prim(0, cons, 2, 3), prim(0, cons, 1, 4), prim(0, cons, 0, 5))
	becomes(t, "(lambda (x) 'x)", known("x"), symbol(12, 0), fn(0, 1, 0))
	becomes(t, "(define x 'x)", known("x"), symbol(10, 0), define(0, "x", 0, 0))
	becomes(t, "(lambda (cons) '(1))", nil, integer(15, 1), word(15, isNil), prim(15, cons, 0, 1), fn(0, 1, 2))
}

func TestP9_4_TheOrderIsThatOfTheListThatIsQuoted(t *testing.T) {
	d := data(name(10, "a"), name(11, "b"), list(12, 1, 0), number(13, 3), list(14, 3, 2))
	answers(t, d, forms(foQuote(4, 4)), tops(0), nil, right(forms(integer(4, 3), symbol(4, 0), symbol(4, 1), word(4, isNil), prim(4, cons, 2, 3), prim(4, cons, 1, 4), word(4, isNil), prim(4, cons, 5, 6), prim(4, cons, 0, 7)), tops(8), "b", "a"))
}

func TestP9_4_TheOrderOfTheNames(t *testing.T) {
	becomes(t, "(define a 'b) (define c a)", known("a", "b", "c"), symbol(10, 1), define(0, "a", 0, 0), global(24, "a", 0), define(14, "c", 2, 2))
	// A set! comes ahead of its part, and a call behind its parts has no name of its own.
	becomes(t, "(set! a 'b) (c 'd) (define c 'e) (define a 1)", known("a", "b", "c", "d", "e"), symbol(8, 1), setGlobal(0, "a", 0, 0), global(13, "c", 2), symbol(15, 3), foCall(12, 2, 3), symbol(29, 4), define(19, "c", 2, 5), integer(43, 1), define(33, "a", 0, 7))
	becomes(t, "(let ((x 'a)) 'b)", known("b", "a"), symbol(14, 0), fn(0, 1, 0), symbol(9, 1), foCall(0, 1, 2))
	// The names of a function, and those of the language, are put nowhere.
	becomes(t, "(lambda (x y) (set! x (car y)))", nil, local(27, 0, 1), prim(22, car, 0), setLocal(14, 0, 0, 1), fn(0, 2, 2))
	// Nor is one that is defined, before its turn has come.
	becomes(t, "'b (define a 1)", known("b", "a"), symbol(0, 0), integer(13, 1), define(3, "a", 1, 1))
}

func TestP9_4_TheNamesAheadOfWhatIsWrong(t *testing.T) {
	wrongAtMark(t, "(define a 'b) @nowhere (define c 'd)", api.ErrName, "a", "b")
	wrongAtMark(t, "(define a (if 'b @nowhere 'c))", api.ErrName, "a", "b")
	wrongAtMark(t, "(define a 1) (set! a ('b a @nowhere 'c))", api.ErrName, "a", "b")
	wrongAtMark(t, "(define a 1) ('b @(set! nowhere 'c))", api.ErrName, "a", "b")
	wrongAtMark(t, "(define a 1) ('b @(car 'c 'd))", api.ErrPrim, "a", "b")
	wrongAtMark(t, "(define a 1) ('b (cons 'c @car))", api.ErrPrim, "a", "b", "c")
	wrongAtMark(t, "'x @(define car 'y)", api.ErrPrim, "x")
	wrongAtMark(t, "'(a (b c) - d) @x", api.ErrName, "a", "b", "c", "-", "d")
}

// scribble writes over all the memory that belongs to a list, and answers what was there.
func scribble[T any](l []T, x T) []T {
	l = l[:cap(l)]
	old := slices.Clone(l)
	for i := range l {
		l[i] = x
	}
	return old
}

const allShapes = "(define (f x y) (or x y (and x y 1) (f 1 2))) (define k '(a b (c 1) #t ())) (let ((x 1) (y 2)) (when x 1 2) (unless y 3)) (let* ((x 1) (y 2)) (set! x y) (begin 1 2 3)) (cond (1 k 3) (4 5) (else (if 1 2) (if 1 2 3))) (lambda (a b c) (set! a b) (set! k c)) (lambda () (f)) #t k (car (cons 1 (time))) (+ 1 2) ((lambda (x) (lambda (car) (car x))) 'k)"

func TestP9_2_ResultsShareNoMemory(t *testing.T) {
	d, l, own := expanded(t, allShapes)
	f, made, _, e := scope.Scope(d, l, own, names.New())
	want, wantMade := copyForms(f), slices.Clone(made)
	if e != api.OK || len(f) < 100 {
		t.Fatal(len(f), e)
	}
	for i := range f {
		parts := scribble(f[i].L, -99)
		others := append(slices.Clone(f[:i]), f[i+1:]...)
		if !slices.EqualFunc(others, slices.Delete(copyForms(want), i, i+1), sameForm) || !slices.Equal(made, wantMade) {
			t.Fatal(i, "shares")
		}
		copy(f[i].L[:len(parts)], parts)
	}
	scribble(made, -99)
	scribble(f, api.Form{})
	f, made, _, e = scope.Scope(d, l, own, names.New())
	if !slices.EqualFunc(f, want, sameForm) || !slices.Equal(made, wantMade) || e != api.OK {
		t.Fatal(f, made, e)
	}
}

// What is answered stays, whatever happens to the forms and the data.
func TestP9_2_TheArgumentsAreNotKept(t *testing.T) {
	d, l, own := expanded(t, allShapes)
	n := names.New()
	f, made, _, _ := scope.Scope(d, l, own, n)
	want, wantMade, wantNames := copyForms(f), slices.Clone(made), texts(n)
	for i := range d {
		scribble(d[i].L, -99)
	}
	for i := range l {
		scribble(l[i].L, -99)
		scribble(l[i].P, "scribbled")
	}
	scribble(d, api.Node{})
	scribble(l, api.Form{})
	scribble(own, -99)
	if !slices.EqualFunc(f, want, sameForm) || !slices.Equal(made, wantMade) || !slices.Equal(texts(n), wantNames) {
		t.Error(f, made, texts(n))
	}
}

func TestP9_2_TheNamesAreNewMemory(t *testing.T) {
	text := []byte("some")
	some := unsafe.String(&text[0], len(text))
	d := data(name(0, some))
	l := forms(foName(1, some), foName(2, some), foSet(3, some, 1), foQuote(4, 0), foDefine(5, some, 3), foName(6, some), foLambda(7, 5, some), foInt(8, 1), foDefine(9, some, 7))
	n := names.New()
	f, _, at, e := scope.Scope(d, l, tops(0, 2, 4, 6, 8), n)
	if e != api.OK {
		t.Fatal(at, e)
	}
	want := forms(global(1, "some", 0), global(2, "some", 0), setGlobal(3, "some", 0, 1), symbol(4, 0), define(5, "some", 0, 3), local(6, 0, 0), fn(7, 1, 5), integer(8, 1), define(9, "some", 0, 7))
	copy(text, "####")
	if !slices.EqualFunc(f, want, sameForm) || !slices.Equal(texts(n), known("some")) {
		t.Fatal(f, texts(n))
	}
	place := map[*byte]int{}
	for _, x := range f {
		if x.S != "" {
			place[unsafe.StringData(x.S)]++
		}
	}
	if len(place) != 5 {
		t.Error("shared", place)
	}
}

// What lies beyond the length of a slice is not read.
func TestP9_2_BeyondTheLength(t *testing.T) {
	d, l, own := expanded(t, allShapes)
	n := names.New()
	f, made, _, _ := scope.Scope(d, l, own, n)
	wideD, wideL := copyData(d), copyForms(l)
	for i := range wideD {
		if wideD[i].Kind == api.DatList {
			wideD[i].L = append(wideD[i].L, 0, -1, 999, math.MaxInt)[:len(wideD[i].L)]
		}
	}
	for i := range wideL {
		wideL[i].L = append(wideL[i].L, 0, -1, 999, math.MaxInt)[:len(wideL[i].L)]
		wideL[i].P = append(wideL[i].P, "f", "k", "car")[:len(wideL[i].P)]
	}
	wideD = append(wideD, api.Node{}, api.Node{Kind: 99, At: -1})[:len(d)]
	wideL = append(wideL, foDefine(0, "car", 0), api.Form{Kind: 99})[:len(l)]
	answers(t, wideD, wideL, append(slices.Clone(own), -1, 999)[:len(own)], nil, right(f, made, texts(n)...))
}

// nest puts so many forms around a form, each with other parts ahead of it and behind it.
func nest(count int, last api.Form, around api.Form, ahead, behind []api.Form) []api.Form {
	l := forms(last)
	for range count {
		inner := len(l) - 1
		f := around
		f.L = nil
		for range ahead {
			f.L = append(f.L, len(l)+len(f.L))
		}
		f.L = append(f.L, inner)
		for i := range behind {
			f.L = append(f.L, len(l)+len(ahead)+i)
		}
		l = append(append(append(l, ahead...), behind...), f)
	}
	return l
}

// The calls are not as deep as the forms, which may be deeper than a stack has room.
func TestP9_2_DeepForms(t *testing.T) {
	const count = 50000
	defer debug.SetMaxStack(debug.SetMaxStack(1 << 20))
	one := foInt(1, 1)
	for i, x := range []struct {
		around        api.Form
		ahead, behind []api.Form
		made          int
	}{
		{foIf(0), nil, forms(one, one), 3},
		{foIf(0), forms(one, one), nil, 3},
		{foSeq(0), nil, nil, 1},
		{foSeq(0), forms(one), forms(one), 3},
		{foCall(0), nil, nil, 1},
		{foCall(0), forms(one), nil, 2},
		{foCall(0), forms(foName(1, "car")), nil, 1},
		{foCall(0), forms(foName(1, "cons"), one), nil, 2},
		{foLambda(0, 0), nil, nil, 1},
		{foLambda(0, 0, "x"), nil, nil, 1},
		{foLambda(0, 0, "x", "y"), nil, nil, 1},
		{foSet(0, "z", 0), nil, nil, 1},
	} {
		for _, last := range []api.Form{foInt(5, 7), foName(9, "nowhere")} {
			l := nest(count, last, x.around, x.ahead, x.behind)
			l = append(l, foInt(0, 1), foDefine(0, "z", len(l)))
			n := names.New()
			f, made, at, e := scope.Scope(nil, l, tops(len(l)-3), n)
			if last.Kind == api.FoInt && (len(f) != 1+count*x.made || !slices.Equal(made, tops(len(f)-1)) || at != 0 || e != api.OK) {
				t.Error(i, len(f), made, at, e)
			}
			if last.Kind == api.FoName && (len(f) != 0 || len(made) != 0 || at != 9 || e != api.ErrName) {
				t.Error(i, len(f), made, at, e)
			}
		}
	}
}

// A name is found in many lists as well as in few.
func TestP9_3_NamesInManyLists(t *testing.T) {
	const count = 100000
	l := forms(foName(1, "a"))
	for i := range count {
		inner := len(l) - 1
		bound := []string{"b"}
		if i == count-1 {
			bound = []string{"x", "a"}
		}
		l = append(l, foLambda(2, inner, bound...), foName(3, "z"), foCall(4, inner+1, inner+2))
	}
	l = append(l, foInt(5, 1), foDefine(6, "z", len(l)))
	n := names.New()
	f, _, at, e := scope.Scope(nil, l, tops(len(l)-3, len(l)-1), n)
	if len(f) != 3*count+3 || !sameForm(f[0], local(1, count-1, 1)) || !sameForm(f[2], global(3, "z", 0)) || at != 0 || e != api.OK {
		t.Fatal(len(f), at, e)
	}
}

func TestP9_4_DeepAndLongQuotes(t *testing.T) {
	const count = 100000
	defer debug.SetMaxStack(debug.SetMaxStack(1 << 20))
	deep := data(number(1, 7))
	for i := range count {
		deep = append(deep, list(0, i))
	}
	f, made, at, e := scope.Scope(deep, forms(foQuote(4, count)), tops(0), names.New())
	if len(f) != 2*count+1 || !slices.Equal(made, tops(2*count)) || at != 0 || e != api.OK || !sameForm(f[0], integer(4, 7)) || !sameForm(f[2*count], prim(4, cons, 2*count-2, 2*count-1)) {
		t.Error(len(f), made, at, e)
	}
	var long []api.Node
	var parts []int
	for i := range count {
		long = append(long, number(1, i))
		parts = append(parts, i)
	}
	long = append(long, list(0, parts...))
	f, made, at, e = scope.Scope(long, forms(foQuote(4, count)), tops(0), names.New())
	if len(f) != 2*count+1 || !slices.Equal(made, tops(2*count)) || at != 0 || e != api.OK || !sameForm(f[count-1], integer(4, count-1)) || !sameForm(f[count], word(4, isNil)) || !sameForm(f[2*count], prim(4, cons, 0, 2*count-1)) {
		t.Error(len(f), made, at, e)
	}
}

// slow is a second way: it calls itself for each form, looks through the lists of names, and gives up by a panic.
type slow struct {
	d       []api.Node
	l       []api.Form
	made    []api.Form
	program []string
	names   []string
}

type bad struct {
	at int
	e  api.Errno
}

func must(ok bool, at int, e api.Errno) {
	if !ok {
		panic(bad{at, e})
	}
}

func slowly(d []api.Node, l []api.Form, own []int, before []string) (x answer) {
	m := slow{d: d, l: l, names: slices.Clone(before)}
	for _, f := range l {
		if f.Kind == 9 {
			m.program = append(m.program, f.S)
		}
	}
	defer func() {
		if b, ok := recover().(bad); ok {
			x = wrong(b.at, b.e, m.names...)
		}
	}()
	var made []int
	for _, i := range own {
		made = append(made, m.form(i, nil))
	}
	return right(m.made, made, m.names...)
}

func (m *slow) add(f api.Form) int {
	m.made = append(m.made, f)
	return len(m.made) - 1
}

func (m *slow) put(s string, at int) int {
	if i := slices.Index(m.names, s); i >= 0 {
		return i
	}
	must(len(s) > 0 && len(s) <= mostBytes, at, api.ErrArg)
	must(len(m.names) < mostNames, at, api.ErrLong)
	m.names = append(m.names, s)
	return len(m.names) - 1
}

const (
	toNothing = iota
	toPlace
	toProgram
	toPrimitive
)

func (m *slow) refers(s string, lists [][]string) (to, a, n int) {
	for a, l := range lists {
		if n := slices.Index(l, s); n >= 0 {
			return toPlace, a, n
		}
	}
	if slices.Contains(m.program, s) {
		return toProgram, 0, 0
	}
	if op, many, ok := primitiveOf(s); ok {
		return toPrimitive, op, many
	}
	return toNothing, 0, 0
}

func (m *slow) each(l []int, lists [][]string) []int {
	var all []int
	for _, i := range l {
		all = append(all, m.form(i, lists))
	}
	return all
}

func (m *slow) integer(at, n int) int {
	must(n < 1<<40 && n > -1<<40, at, api.ErrOver)
	return m.add(integer(at, n))
}

func (m *slow) form(i int, lists [][]string) int {
	f := m.l[i]
	switch at := f.At; f.Kind {
	case 1:
		return m.integer(at, f.N)
	case 2:
		return m.add(word(at, []api.Word{isFalse, isTrue}[f.N]))
	case 3:
		return m.quote(at, f.N)
	case 4:
		switch to, a, n := m.refers(f.S, lists); to {
		case toPlace:
			return m.add(local(at, a, n))
		case toProgram:
			return m.add(global(at, f.S, m.put(f.S, at)))
		case toPrimitive:
			panic(bad{at, api.ErrPrim})
		}
		panic(bad{at, api.ErrName})
	case 5:
		return m.add(foIf(at, m.each(f.L, lists)...))
	case 6:
		inner := append([][]string{f.P}, lists...)
		return m.add(fn(at, len(f.P), m.form(f.L[0], inner)))
	case 7:
		return m.set(f, lists)
	case 8:
		return m.add(foSeq(at, m.each(f.L, lists)...))
	case 9:
		_, _, is := primitiveOf(f.S)
		must(!is, at, api.ErrPrim)
		k := m.put(f.S, at)
		return m.add(define(at, f.S, k, m.form(f.L[0], lists)))
	}
	return m.call(f, lists)
}

func (m *slow) set(f api.Form, lists [][]string) int {
	to, a, n := m.refers(f.S, lists)
	must(to != toPrimitive, f.At, api.ErrPrim)
	must(to != toNothing, f.At, api.ErrName)
	if to == toPlace {
		return m.add(setLocal(f.At, a, n, m.form(f.L[0], lists)))
	}
	k := m.put(f.S, f.At)
	return m.add(setGlobal(f.At, f.S, k, m.form(f.L[0], lists)))
}

func (m *slow) call(f api.Form, lists [][]string) int {
	if first := m.l[f.L[0]]; first.Kind == 4 {
		if to, op, many := m.refers(first.S, lists); to == toPrimitive {
			must(len(f.L) == many+1, f.At, api.ErrPrim)
			return m.add(prim(f.At, op, m.each(f.L[1:], lists)...))
		}
	}
	return m.add(foCall(f.At, m.each(f.L, lists)...))
}

func (m *slow) quote(at, i int) int {
	switch x := m.d[i]; x.Kind {
	case 1:
		return m.integer(at, x.N)
	case 2:
		return m.add(word(at, []api.Word{isFalse, isTrue}[x.N]))
	case 3:
		return m.add(symbol(at, m.put(x.S, at)))
	default:
		return m.quoteList(at, x.L)
	}
}

func (m *slow) quoteList(at int, l []int) int {
	if len(l) == 0 {
		return m.add(word(at, isNil))
	}
	first := m.quote(at, l[0])
	return m.add(prim(at, cons, first, m.quoteList(at, l[1:])))
}

// maker makes random texts. One of so many names stands anywhere, whatever it is.
type maker struct {
	r       *rand.Rand
	fault   int
	program []string
}

func (m *maker) isFault() bool { return m.r.Intn(m.fault) == 0 }

func (m *maker) one(l ...string) string { return l[m.r.Intn(len(l))] }

func (m *maker) any() string {
	if m.r.Intn(3) == 0 {
		return primitives()[m.r.Intn(30)].name
	}
	return m.one("a", "b", "c", "f", "g", "x", "y", "nowhere")
}

// name is one that is bound, or the program's, most times.
func (m *maker) name(bound []string) (string, bool) {
	if m.isFault() {
		return m.any(), true
	}
	all := append(slices.Clone(bound), m.program...)
	if len(all) == 0 {
		return "", false
	}
	return m.one(all...), true
}

func (m *maker) blank() string { return strings.Repeat(" ", 1+m.r.Intn(2)) }

func (m *maker) datum(depth int) string {
	switch k := m.r.Intn(6); {
	case k < 2 && depth > 0:
		s := "("
		for range m.r.Intn(4) {
			s += m.blank() + m.datum(depth-1)
		}
		return s + ")"
	case k == 2:
		return m.one("#t", "#f")
	case k == 3:
		return strconv.Itoa(m.r.Intn(100) - 50)
	case k == 4 && depth > 0:
		return "'" + m.datum(depth-1)
	}
	return m.one("a", "b", "k", "car", "if", "nowhere")
}

func (m *maker) list(depth, count int, bound []string) string {
	s := ""
	for range count {
		s += m.blank() + m.form(depth, bound)
	}
	return s
}

func (m *maker) leaf(bound []string) string {
	if s, ok := m.name(bound); ok && m.r.Intn(4) > 0 {
		return s
	}
	return m.one("1", "#f", "'"+m.datum(1), "-7")
}

func (m *maker) some() []string {
	var l []string
	all := []string{"a", "b", "x", "y", "car", "+", "time"}
	for _, i := range m.r.Perm(len(all))[:m.r.Intn(4)] {
		l = append(l, all[i])
	}
	return l
}

func (m *maker) form(depth int, bound []string) string {
	if depth == 0 || m.r.Intn(6) == 0 {
		return m.leaf(bound)
	}
	depth--
	switch m.r.Intn(10) {
	case 0:
		return "'" + m.datum(3)
	case 1:
		return "(if" + m.list(depth, 2+m.r.Intn(2), bound) + ")"
	case 2, 3:
		l := m.some()
		return "(lambda (" + strings.Join(l, " ") + ")" + m.list(depth, 1+m.r.Intn(2), append(l, bound...)) + ")"
	case 4:
		l := m.some()
		s := "("
		for _, x := range l {
			s += m.blank() + "(" + x + m.list(depth, 1, bound) + ")"
		}
		return "(let " + s + ")" + m.list(depth, 1+m.r.Intn(2), append(l, bound...)) + ")"
	case 5:
		return "(" + m.one("or", "and", "begin 1") + m.list(depth, m.r.Intn(3), bound) + ")"
	case 6:
		if s, ok := m.name(bound); ok {
			return "(set! " + s + m.list(depth, 1, bound) + ")"
		}
	case 7, 8:
		p := primitives()[m.r.Intn(30)]
		if m.isFault() {
			p.many = m.r.Intn(4)
		}
		return "(" + p.name + m.list(depth, p.many, bound) + ")"
	}
	return "(" + m.form(depth, bound) + m.list(depth, m.r.Intn(3), bound) + ")"
}

func (m *maker) text() string {
	for _, s := range []string{"f", "g", "a", "k"} {
		if m.r.Intn(2) == 0 {
			m.program = append(m.program, s)
		}
	}
	if m.isFault() {
		m.program = append(m.program, primitives()[m.r.Intn(30)].name)
	}
	depth := m.r.Intn(5)
	var l []string
	for _, s := range m.program {
		for range 1 + m.r.Intn(2) {
			if m.r.Intn(2) == 0 {
				l = append(l, "(define "+s+m.list(depth, 1, nil)+")")
				continue
			}
			p := m.some()
			l = append(l, "(define ("+strings.Join(append([]string{s}, p...), " ")+")"+m.list(depth, 1, p)+")")
		}
	}
	for range m.r.Intn(3) {
		l = append(l, m.form(depth, nil))
	}
	m.r.Shuffle(len(l), func(i, k int) { l[i], l[k] = l[k], l[i] })
	return strings.Join(l, m.blank())
}

// Random texts are held against the second way, good ones and bad ones.
func TestP9_2_RandomTexts(t *testing.T) {
	r := rand.New(rand.NewSource(9))
	const count = 20000
	ends, kinds := map[api.Errno]int{}, map[uint8]int{}
	for range count {
		m := maker{r: r, fault: []int{10, 40, 200, math.MaxInt}[r.Intn(4)]}
		s := m.text()
		if len(s) > 4000 {
			continue
		}
		d, l, own := expanded(t, s)
		var before []string
		for _, i := range r.Perm(4)[:r.Intn(4)] {
			before = append(before, []string{"a", "f", "k", "old"}[i])
		}
		want := slowly(d, l, own, before)
		answers(t, d, l, own, before, want)
		ends[want.e]++
		if want.e == api.OK {
			isResolved(t, want.forms, want.tops)
		}
		for _, f := range want.forms {
			kinds[f.Kind]++
		}
	}
	for _, e := range []api.Errno{api.OK, api.ErrName, api.ErrPrim} {
		if ends[e] < count/20 {
			t.Error("few that end so", ends)
		}
	}
	for _, k := range []uint8{4, 5, 6, 7, 8, 9, 10, 11, 12, 13} {
		if kinds[k] < 1000 {
			t.Error("few of the kind", k, kinds)
		}
	}
}

// isResolved tells whether forms are as P9.5 and P9.2 say: of the kinds that are left, each in one form or at the top level, right behind its parts, and no name further out than there are functions.
func isResolved(t *testing.T, f []api.Form, own []int) {
	t.Helper()
	times, start := make([]int, len(f)), make([]int, len(f))
	for i, x := range f {
		if x.Kind < api.FoName || x.Kind > api.FoConst || len(x.P) > 0 {
			t.Fatal(i, x)
		}
		start[i] = i
		for k := len(x.L) - 1; k >= 0; k-- {
			if p := x.L[k]; p < 0 || p != start[i]-1 {
				t.Fatal(i, x, f)
			}
			start[i] = start[x.L[k]]
			times[x.L[k]]++
		}
	}
	for _, i := range own {
		times[i]++
		hasItsFunctions(t, f, i, nil)
	}
	for i, n := range times {
		if n != 1 {
			t.Fatal(i, n, f)
		}
	}
}

func hasItsFunctions(t *testing.T, f []api.Form, i int, around []int) {
	t.Helper()
	x := f[i]
	if x.Kind == api.FoLocal || x.Kind == api.FoSet && x.A >= 0 {
		if x.A < 0 || x.A >= len(around) || x.N < 0 || x.N >= around[len(around)-1-x.A] {
			t.Fatal(i, x, around)
		}
	}
	if x.Kind == api.FoFn {
		around = append(slices.Clone(around), x.N)
	}
	for _, k := range x.L {
		hasItsFunctions(t, f, k, around)
	}
}

func TestP9_5_TheKinds(t *testing.T) {
	d, l, own := expanded(t, allShapes)
	f, made, _, e := scope.Scope(d, l, own, names.New())
	if e != api.OK {
		t.Fatal(e)
	}
	isResolved(t, f, made)
	seen := map[uint8]int{}
	for _, x := range f {
		seen[x.Kind]++
	}
	if len(seen) != 10 {
		t.Error(seen)
	}
}

// mayNot tells whether the document asks for ErrArg.
func mayNot(d []api.Node, l []api.Form, own []int) bool {
	times := map[int]int{}
	for i, f := range l {
		for _, k := range f.L {
			times[k]++
			if k >= i {
				return true
			}
		}
		least := map[uint8]int{api.FoIf: 3, api.FoFn: 1, api.FoSet: 1, api.FoDef: 1, api.FoCall: 1}[f.Kind]
		if len(f.L) < least || f.Kind == api.FoQuote && (f.N < 0 || f.N >= len(d)) {
			return true
		}
	}
	for _, i := range own {
		times[i]++
		if i < 0 || i >= len(l) {
			return true
		}
	}
	for _, n := range times {
		if n > 1 {
			return true
		}
	}
	return false
}

// Whatever forms come, the call ends; and those that the document names are refused.
func TestP9_2_AnyForms(t *testing.T) {
	r := rand.New(rand.NewSource(90))
	d := data(name(0, "a"), number(1, 1), list(2, 0, 1), boolean(3, 1), list(4), list(5, 3, 2))
	numbers := []int{-1, 0, 1, 2, 3, 4, 5, 6, math.MinInt, math.MaxInt}
	refusals, rest := 0, 0
	for range 300000 {
		var l []api.Form
		for i := range r.Intn(6) {
			f := api.Form{Kind: uint8(1 + r.Intn(10)), At: r.Intn(99) - 9, N: r.Intn(6), S: []string{"x", "car", "", "f"}[r.Intn(4)], P: []string{"x", "x", "y"}[:r.Intn(4)]}
			for range r.Intn(4) {
				f.L = append(f.L, r.Intn(i+1))
			}
			switch r.Intn(20) {
			case 0:
				f.Kind = uint8(r.Intn(256))
			case 1:
				f.N, f.A = numbers[r.Intn(10)], numbers[r.Intn(10)]
			case 2:
				f.L = append(f.L, numbers[r.Intn(10)])
			}
			l = append(l, f)
		}
		var own []int
		for range r.Intn(3) {
			own = append(own, r.Intn(len(l)+1))
		}
		oldL, oldOwn := copyForms(l), slices.Clone(own)
		n := names.New()
		f, made, at, e := scope.Scope(d, l, own, n)
		if e != api.OK && (len(f) > 0 || len(made) > 0) || e == api.OK && at != 0 {
			t.Fatal(l, own, f, made, at, e)
		}
		if !slices.EqualFunc(l, oldL, sameForm) || !slices.Equal(own, oldOwn) {
			t.Fatal(l, own, oldL, oldOwn)
		}
		if !mayNot(d, l, own) {
			rest++
			continue
		}
		refusals++
		if at != 0 || e != api.ErrArg || n.Len() != 0 {
			t.Fatal(l, own, at, e, texts(n))
		}
	}
	if refusals < 10000 || rest < 10000 {
		t.Error(refusals, rest)
	}
}

// Forms that are resolved already, and kinds that there are none of, are no forms to resolve.
func TestP9_2_KindsThatAreNotResolved(t *testing.T) {
	for _, kind := range []uint8{0, api.FoLocal, api.FoPrim, api.FoConst, 14, 99, 255} {
		refused(t, nil, forms(api.Form{Kind: kind, At: 4}), tops(0))
		refused(t, nil, forms(api.Form{Kind: kind, At: 4}, foInt(5, 1)), tops(1))
		refused(t, nil, forms(foInt(3, 1), api.Form{Kind: kind, At: 4, L: []int{0}}), tops(1))
	}
}

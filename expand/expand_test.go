package expand_test

import (
	"math"
	"math/rand"
	"runtime/debug"
	"slices"
	"strconv"
	"strings"
	"testing"
	"unsafe"

	"eddywheel/api"
	"eddywheel/expand"
	"eddywheel/read"
)

// Written out, so that a limit that moves is seen.
const mostNames = 100

// A datum is made as the document tells it.

func number(at, n int) api.Node { return api.Node{Kind: api.DatInt, At: at, N: n} }

func boolean(at, n int) api.Node { return api.Node{Kind: api.DatBool, At: at, N: n} }

func name(at int, s string) api.Node { return api.Node{Kind: api.DatName, At: at, S: s} }

func list(at int, l ...int) api.Node { return api.Node{Kind: api.DatList, At: at, L: l} }

func data(l ...api.Node) []api.Node { return l }

// And so is a form.

func foInt(at, n int) api.Form { return api.Form{Kind: api.FoInt, At: at, N: n} }

func foBool(at, n int) api.Form { return api.Form{Kind: api.FoBool, At: at, N: n} }

func foQuote(at, n int) api.Form { return api.Form{Kind: api.FoQuote, At: at, N: n} }

func foName(at int, s string) api.Form { return api.Form{Kind: api.FoName, At: at, S: s} }

func foIf(at int, l ...int) api.Form { return api.Form{Kind: api.FoIf, At: at, L: l} }

func foFn(at, body int, names ...string) api.Form {
	return api.Form{Kind: api.FoFn, At: at, P: names, L: []int{body}}
}

func foSet(at int, s string, i int) api.Form {
	return api.Form{Kind: api.FoSet, At: at, S: s, L: []int{i}}
}

func foSeq(at int, l ...int) api.Form { return api.Form{Kind: api.FoSeq, At: at, L: l} }

func foDef(at int, s string, i int) api.Form {
	return api.Form{Kind: api.FoDef, At: at, S: s, L: []int{i}}
}

func foCall(at int, l ...int) api.Form { return api.Form{Kind: api.FoCall, At: at, L: l} }

func forms(l ...api.Form) []api.Form { return l }

func tops(l ...int) []int { return l }

func sameForm(a, b api.Form) bool {
	return a.Kind == b.Kind && a.At == b.At && a.N == b.N && a.A == b.A && a.S == b.S && a.W == b.W && slices.Equal(a.P, b.P) && slices.Equal(a.L, b.L)
}

func sameNode(a, b api.Node) bool {
	return a.Kind == b.Kind && a.At == b.At && a.N == b.N && a.S == b.S && slices.Equal(a.L, b.L)
}

func copyData(l []api.Node) []api.Node {
	l = slices.Clone(l)
	for i := range l {
		l[i].L = slices.Clone(l[i].L)
	}
	return l
}

func copyForms(l []api.Form) []api.Form {
	l = slices.Clone(l)
	for i := range l {
		l[i].L, l[i].P = slices.Clone(l[i].L), slices.Clone(l[i].P)
	}
	return l
}

// answers tells whether Expand answers this, however often one asks, and leaves what it is given as it is.
func answers(t *testing.T, l []api.Node, at []int, want []api.Form, wantTops []int, wantAt int, wantE api.Errno) {
	t.Helper()
	before, atBefore := copyData(l), slices.Clone(at)
	for range 2 {
		f, own, wrong, e := expand.Expand(l, at)
		if !slices.EqualFunc(f, want, sameForm) || !slices.Equal(own, wantTops) || wrong != wantAt || e != wantE {
			t.Fatalf("%v, %v: %v, %v, %d, %d, not %v, %v, %d, %d", l, at, f, own, wrong, e, want, wantTops, wantAt, wantE)
		}
	}
	if !slices.EqualFunc(l, before, sameNode) || !slices.Equal(at, atBefore) {
		t.Fatalf("%v, %v, before %v, %v", l, at, before, atBefore)
	}
}

func row(t *testing.T, s string) ([]api.Node, []int) {
	t.Helper()
	l, at, wrong, e := read.Read(s)
	if e != api.OK {
		t.Fatal(s, wrong, e)
	}
	return l, at
}

// becomes tells whether a text of one datum becomes these forms, the last of which stands for it.
func becomes(t *testing.T, s string, want ...api.Form) {
	t.Helper()
	l, at := row(t, s)
	answers(t, l, at, want, tops(len(want)-1), 0, api.OK)
}

// wrong tells whether a text is wrong at this place.
func wrong(t *testing.T, s string, at int) {
	t.Helper()
	l, top := row(t, s)
	answers(t, l, top, nil, nil, at, api.ErrForm)
}

// wrongAtMark is as wrong; the place is where the text has a mark, which is taken out.
func wrongAtMark(t *testing.T, marked ...string) {
	t.Helper()
	for _, m := range marked {
		at := strings.IndexByte(m, '@')
		if at < 0 {
			t.Fatal("no mark", m)
		}
		wrong(t, m[:at]+m[at+1:], at)
	}
}

// right tells whether a text becomes forms, whatever they are.
func right(t *testing.T, s string) {
	t.Helper()
	l, at := row(t, s)
	if _, _, wrong, e := expand.Expand(l, at); wrong != 0 || e != api.OK {
		t.Fatal(s, wrong, e)
	}
}

// alike tells whether two texts become the same forms, but for where they come from.
func alike(t *testing.T, a, b string) {
	t.Helper()
	all := [2][]api.Form{}
	for i, s := range []string{a, b} {
		l, at := row(t, s)
		f, _, wrong, e := expand.Expand(l, at)
		if e != api.OK {
			t.Fatal(s, wrong, e)
		}
		for k := range f {
			f[k].At = 0
		}
		all[i] = f
	}
	if !slices.EqualFunc(all[0], all[1], sameForm) {
		t.Fatalf("%q, %q: %v, %v", a, b, all[0], all[1])
	}
}

func reservedNames() []string {
	return []string{"quote", "if", "lambda", "set!", "begin", "define", "let", "let*", "cond", "else", "and", "or", "when", "unless"}
}

func TestP8_1_Reserved(t *testing.T) {
	all := reservedNames()
	for _, s := range all {
		if !expand.Reserved(s) || !expand.Reserved(s) {
			t.Error(s)
		}
	}
	for _, s := range []string{"", " ", "x", "car", "+", "-", "out", "letrec", "let**", "set", "def", "do", "case", "quasiquote", "call/cc", "not", "begin0", "unquote", "*", "!", "quote if", "#t", "1", "\x00", strings.Repeat("let", 50)} {
		if expand.Reserved(s) {
			t.Error(s)
		}
	}
	for _, s := range all {
		near := []string{s + " ", " " + s, s + "\x00", s + "x", "x" + s, s + s, s + "'", strings.ToUpper(s), strings.ToUpper(s[:1]) + s[1:], s[:len(s)-1], s[1:], s + "*", s + "!"}
		for _, other := range all {
			near = append(near, s+other, s+" "+other)
		}
		for _, x := range near {
			if expand.Reserved(x) != slices.Contains(all, x) {
				t.Errorf("%q", x)
			}
		}
	}
}

// A row that is not valid is an error, whatever is asked for, and one ahead of any that is in its data.
func TestP8_1_RowsThatAreNotValid(t *testing.T) {
	a, b := name(0, "a"), number(0, 2)
	for _, l := range [][]api.Node{
		{{}},
		{{Kind: 5}},
		{{Kind: 255}},
		{a, {Kind: 0, S: "a"}},
		{{Kind: api.DatInt, At: -1}},
		{a, {Kind: api.DatName, S: "b", At: math.MinInt}},
		{boolean(0, 2)},
		{boolean(0, -1), a},
		{{Kind: api.DatInt, S: "a"}},
		{{Kind: api.DatBool, S: "a"}},
		{{Kind: api.DatName, S: "a", N: 1}},
		{{Kind: api.DatList, N: 1}},
		{{Kind: api.DatList, S: "if"}},
		{a, {Kind: api.DatInt, L: []int{0}}},
		{a, {Kind: api.DatName, S: "b", L: []int{0}}},
		{list(0, 0)},
		{list(0, 1), a},
		{a, list(0, 1)},
		{a, list(0, 2)},
		{a, list(0, -1)},
		{a, list(0, math.MinInt)},
		{a, list(0, math.MaxInt)},
		{a, list(0, 0, 0)},
		{a, list(0, 0), list(0, 0)},
		{a, b, list(0, 0, 1), list(0, 2, 1)},
		{list(0), list(9, 7)},
		{name(3, "if"), list(4), {}},
	} {
		answers(t, l, nil, nil, nil, 0, api.ErrArg)
		answers(t, l, tops(0), nil, nil, 0, api.ErrArg)
		answers(t, l, tops(len(l)-1), nil, nil, 0, api.ErrArg)
		answers(t, l, tops(len(l)), nil, nil, 0, api.ErrArg)
	}
}

func TestP8_1_TopsThatAreNone(t *testing.T) {
	far := []int{math.MinInt, math.MinInt + 1, -1 << 32, -1<<32 + 1, -256, -2, -1, 256, 1 << 32, 1<<32 + 1, math.MaxInt}
	for _, l := range [][]api.Node{nil, {}, data(number(5, 1)), data(name(5, "a"), list(4, 0)), data(name(5, "if"), list(7))} {
		for _, i := range append(slices.Clone(far), len(l), len(l)+1) {
			answers(t, l, tops(i), nil, nil, 0, api.ErrArg)
			if len(l) > 0 {
				answers(t, l, tops(0, i), nil, nil, 0, api.ErrArg)
				answers(t, l, tops(i, len(l)-1), nil, nil, 0, api.ErrArg)
				answers(t, l, tops(0, 0, i, 0), nil, nil, 0, api.ErrArg)
			}
		}
	}
	answers(t, data(number(1, 1), number(2, 2))[:1], tops(1), nil, nil, 0, api.ErrArg)
}

func TestP8_1_NoTops(t *testing.T) {
	for _, l := range [][]api.Node{nil, {}, data(number(1, 1)), data(list(3)), data(name(2, "if"), list(1, 0))} {
		answers(t, l, nil, nil, nil, 0, api.OK)
		answers(t, l, tops(), nil, nil, 0, api.OK)
	}
	l, at := row(t, " ; nothing")
	answers(t, l, at, nil, nil, 0, api.OK)
}

func TestP8_1_TheTopsInTheirOrder(t *testing.T) {
	l, at := row(t, "1 (f 2) #t 'a x")
	f := forms(foInt(0, 1), foName(3, "f"), foInt(5, 2), foCall(2, 1, 2), foBool(8, 1), foQuote(11, 6), foName(14, "x"))
	answers(t, l, at, f, tops(0, 3, 4, 5, 6), 0, api.OK)
	answers(t, l, tops(8, 0, 4), forms(foName(14, "x"), foInt(0, 1), foBool(8, 1)), tops(0, 1, 2), 0, api.OK)
	answers(t, l, tops(7, 3), forms(foQuote(11, 6), foName(3, "f"), foInt(5, 2), foCall(2, 1, 2)), tops(0, 3), 0, api.OK)
}

// A datum is expanded as often as it is in tops, and one that is in a list may be there, too.
func TestP8_1_TopsTwiceAndWithinLists(t *testing.T) {
	l, _ := row(t, "(f 2)")
	answers(t, l, tops(1, 1, 1), forms(foInt(3, 2), foInt(3, 2), foInt(3, 2)), tops(0, 1, 2), 0, api.OK)
	answers(t, l, tops(2, 0, 2), forms(foName(1, "f"), foInt(3, 2), foCall(0, 0, 1), foName(1, "f"), foName(1, "f"), foInt(3, 2), foCall(0, 4, 5)), tops(2, 3, 6), 0, api.OK)
	answers(t, l, tops(0), forms(foName(1, "f")), tops(0), 0, api.OK)
	l, _ = row(t, "(if (define x 1))")
	answers(t, l, tops(4), forms(foInt(14, 1), foDef(4, "x", 0)), tops(1), 0, api.OK)
	answers(t, l, tops(4, 5), nil, nil, 0, api.ErrForm)
	answers(t, l, tops(5, 4), nil, nil, 0, api.ErrForm)
}

// What is in no top is not looked at.
func TestP8_1_OnlyTheTopsCount(t *testing.T) {
	l, at := row(t, "(if) 1 () (lambda) 2")
	answers(t, l, tops(at[1], at[4]), forms(foInt(5, 1), foInt(19, 2)), tops(0, 1), 0, api.OK)
	answers(t, l, tops(at[1], at[2], at[4]), nil, nil, 7, api.ErrForm)
	answers(t, l, tops(at[4], at[3], at[0]), nil, nil, 10, api.ErrForm)
	answers(t, l, at, nil, nil, 0, api.ErrForm)
}

func TestP8_1_TheFirstWrongTop(t *testing.T) {
	wrongAtMark(t, "1 @() ()", "(f) (g 2) @if", "1 (f @()) (if)", "(define x 1) @(define)", "@(if) 1", "(f x) 'a @else (if)")
}

func TestP8_2_Numbers(t *testing.T) {
	for _, n := range []int{0, 1, -1, 12, 1<<40 - 1, -1<<40 + 1, 1 << 40, math.MaxInt, math.MinInt} {
		for _, at := range []int{0, 3, 4000, math.MaxInt} {
			answers(t, data(number(at, n)), tops(0), forms(foInt(at, n)), tops(0), 0, api.OK)
		}
	}
}

func TestP8_2_Booleans(t *testing.T) {
	becomes(t, " #t", foBool(1, 1))
	becomes(t, "  #f", foBool(2, 0))
}

// A name of any text that is not reserved is a form, also an empty one and one that no text can have.
func TestP8_2_Names(t *testing.T) {
	for _, s := range []string{"a", "+", "call/cc", "-x", "let**", "Else", "", " ", "if ", "(", "é", "\xff", strings.Repeat("n", 33), strings.Repeat("long", 5000)} {
		answers(t, data(name(7, s)), tops(0), forms(foName(7, s)), tops(0), 0, api.OK)
		answers(t, data(name(7, s), name(9, s), list(6, 0, 1)), tops(2), forms(foName(7, s), foName(9, s), foCall(6, 0, 1)), tops(2), 0, api.OK)
	}
}

func TestP8_2_AReservedNameByItself(t *testing.T) {
	for _, s := range reservedNames() {
		wrongAtMark(t, "@"+s, "1 @"+s+" ()", "(f @"+s+")", "(f 1 @"+s+" 2)", "((x @"+s+"))", "(if @"+s+" 1)", "(if 1 @"+s+")", "(if 1 2 @"+s+")", "(lambda () @"+s+")", "(lambda () 1 @"+s+")", "(set! x @"+s+")", "(begin @"+s+")", "(begin 1 @"+s+" 2)", "(define x @"+s+")", "(define (f) @"+s+")", "(let ((x @"+s+")) 1)", "(let () @"+s+")", "(let* ((x @"+s+")) 1)", "(let* () @"+s+")", "(and @"+s+")", "(and 1 @"+s+")", "(or @"+s+")", "(or @"+s+" 1)", "(or 1 @"+s+")", "(when @"+s+" 1)", "(when 1 @"+s+")", "(unless @"+s+" 1)", "(unless 1 @"+s+")", "(cond (1 @"+s+"))", "(cond (else @"+s+"))", "(cond (1 2) (else 3 @"+s+"))")
		right(t, "'"+s)
		right(t, "'(f "+s+")")
		right(t, "(quote "+s+")")
	}
}

func TestP8_2_Calls(t *testing.T) {
	becomes(t, "(f)", foName(1, "f"), foCall(0, 0))
	becomes(t, "(f x)", foName(1, "f"), foName(3, "x"), foCall(0, 0, 1))
	becomes(t, "(f x 2 #f)", foName(1, "f"), foName(3, "x"), foInt(5, 2), foBool(7, 0), foCall(0, 0, 1, 2, 3))
	becomes(t, "(1)", foInt(1, 1), foCall(0, 0))
	becomes(t, "(#t 2)", foBool(1, 1), foInt(4, 2), foCall(0, 0, 1))
	becomes(t, "('a)", foQuote(1, 1), foCall(0, 0))
	becomes(t, "(f (g x) y)", foName(1, "f"), foName(4, "g"), foName(6, "x"), foCall(3, 1, 2), foName(9, "y"), foCall(0, 0, 3, 4))
	becomes(t, "((f x) (g))", foName(2, "f"), foName(4, "x"), foCall(1, 0, 1), foName(8, "g"), foCall(7, 3), foCall(0, 2, 4))
	becomes(t, "(((f)))", foName(3, "f"), foCall(2, 0), foCall(1, 1), foCall(0, 2))
	becomes(t, "(letter)", foName(1, "letter"), foCall(0, 0))
	becomes(t, "((lambda () 1))", foInt(12, 1), foFn(1, 0), foCall(0, 1))
	becomes(t, "((if a f g) 1)", foName(5, "a"), foName(7, "f"), foName(9, "g"), foIf(1, 0, 1, 2), foInt(12, 1), foCall(0, 3, 4))
}

// The parts come in the order of L, which needs not be that of the row.
func TestP8_2_TheOrderIsThatOfTheList(t *testing.T) {
	l := data(number(10, 1), name(11, "f"), number(12, 3), list(13, 1, 2, 0))
	answers(t, l, tops(3), forms(foName(11, "f"), foInt(12, 3), foInt(10, 1), foCall(13, 0, 1, 2)), tops(3), 0, api.OK)
	l = data(number(10, 1), number(11, 2), name(12, "if"), name(13, "x"), list(14, 2, 3, 1, 0))
	answers(t, l, tops(4), forms(foName(13, "x"), foInt(11, 2), foInt(10, 1), foIf(14, 0, 1, 2)), tops(3), 0, api.OK)
}

func TestP8_2_AnEmptyList(t *testing.T) {
	wrongAtMark(t, "@()", "(@())", "(f @())", "(f @() ())", "((@()) ())", "(if @() 1)", "(lambda () @())", "(begin 1 @())", "(set! x @())", "(cond (@() 1))", "(and @())", "(or @())", "(or () @())", "(let ((x @())) 1)", "(let* () @())", "(define x @())", "(when 1 @())", "(unless @() 1)")
	right(t, "'()")
	right(t, "(quote (() (if) else))")
}

func TestP8_2_ElseBeginsNoList(t *testing.T) {
	wrongAtMark(t, "@(else)", "@(else 1)", "@(else 1 2)", "(f @(else 1))", "(if @(else 1) 2)", "(lambda () @(else 1))", "(begin @(else (1)))", "(cond (1 @(else 2)))", "(cond (@(else 1) 2))", "(cond (else @(else 1)))", "@(else ())", "(let ((x @(else 1))) 2)", "(and 1 @(else 1))")
}

func TestP8_3_Quote(t *testing.T) {
	becomes(t, "(quote a)", foQuote(0, 1))
	becomes(t, "'a", foQuote(0, 1))
	becomes(t, "'12", foQuote(0, 1))
	becomes(t, "'#f", foQuote(0, 1))
	becomes(t, "'()", foQuote(0, 1))
	becomes(t, " '(a (b) c)", foQuote(1, 5))
	becomes(t, "''a", foQuote(0, 3))
	becomes(t, "(f 'a '(b))", foName(1, "f"), foQuote(3, 2), foQuote(6, 6), foCall(0, 0, 1, 2))
	becomes(t, "(quote (if))", foQuote(0, 2))
	wrongAtMark(t, "@(quote)", "@(quote a b)", "@(quote 1 2 3)", "(f @(quote))", "'a @(quote () ())", "(1 @(quote if else))")
	l := data(number(8, 4), name(9, "x"), name(5, "quote"), list(6, 2, 0))
	answers(t, l, tops(3), forms(foQuote(6, 0)), tops(0), 0, api.OK)
}

func TestP8_3_If(t *testing.T) {
	becomes(t, "(if a 1 2)", foName(4, "a"), foInt(6, 1), foInt(8, 2), foIf(0, 0, 1, 2))
	becomes(t, " (if a 1)", foName(5, "a"), foInt(7, 1), foBool(1, 0), foIf(1, 0, 1, 2))
	becomes(t, "(f (if #t (g) 2))", foName(1, "f"), foBool(7, 1), foName(11, "g"), foCall(10, 2), foInt(14, 2), foIf(3, 1, 3, 4), foCall(0, 0, 5))
	becomes(t, "(if (if a b) c)", foName(8, "a"), foName(10, "b"), foBool(4, 0), foIf(4, 0, 1, 2), foName(13, "c"), foBool(0, 0), foIf(0, 3, 4, 5))
	wrongAtMark(t, "@(if)", "@(if 1)", "@(if 1 2 3 4)", "@(if () 2 3 4)", "@(if () () () () ())", "@(if ())", "(if @() ())", "(if 1 @() ())", "(if 1 2 @())", "(if @(if) (lambda))")
}

func TestP8_3_Lambda(t *testing.T) {
	becomes(t, "(lambda () 1)", foInt(11, 1), foFn(0, 0))
	becomes(t, "(lambda (x) x)", foName(12, "x"), foFn(0, 0, "x"))
	becomes(t, " (lambda (x y z) 1)", foInt(17, 1), foFn(1, 0, "x", "y", "z"))
	becomes(t, "(lambda (x) x 1)", foName(12, "x"), foInt(14, 1), foSeq(0, 0, 1), foFn(0, 2, "x"))
	becomes(t, "(lambda (b a) 1 2 3)", foInt(14, 1), foInt(16, 2), foInt(18, 3), foSeq(0, 0, 1, 2), foFn(0, 3, "b", "a"))
	becomes(t, "(lambda () (lambda (x) 2))", foInt(23, 2), foFn(11, 0, "x"), foFn(0, 1))
	wrongAtMark(t, "@(lambda)", "@(lambda ())", "@(lambda (x))", "@(lambda x)", "@(lambda x 1)", "@(lambda 5 1)", "@(lambda #t 1)", "@(lambda (1) 1)", "@(lambda (#f) 1)", "@(lambda (()) 1)", "@(lambda ((x)) 1)", "@(lambda (x 2) 1)", "@(lambda ('x) 1)", "@(lambda 'x 1)", "(f @(lambda))", "@(lambda (if) ())", "@(lambda (x x) ())", "(lambda (x) @())", "(lambda () 1 @() ())")
}

func TestP8_3_Set(t *testing.T) {
	becomes(t, "(set! x 1)", foInt(8, 1), foSet(0, "x", 0))
	becomes(t, "(set! x (f y))", foName(9, "f"), foName(11, "y"), foCall(8, 0, 1), foSet(0, "x", 2))
	becomes(t, "(f (set! car car))", foName(1, "f"), foName(13, "car"), foSet(3, "car", 1), foCall(0, 0, 2))
	wrongAtMark(t, "@(set!)", "@(set! x)", "@(set! x 1 2)", "@(set! 1 2)", "@(set! #t 2)", "@(set! () 2)", "@(set! (x) 2)", "@(set! 'x 2)", "@(set! (f x) 2)", "@(set! x () ())", "@(set! 1 ())", "(f @(set! x))")
}

func TestP8_3_Begin(t *testing.T) {
	becomes(t, "(begin 1)", foInt(7, 1))
	becomes(t, "(begin (f))", foName(8, "f"), foCall(7, 0))
	becomes(t, "(begin (begin (begin x)))", foName(21, "x"))
	becomes(t, " (begin 1 2)", foInt(8, 1), foInt(10, 2), foSeq(1, 0, 1))
	becomes(t, "(begin 1 x #t)", foInt(7, 1), foName(9, "x"), foBool(11, 1), foSeq(0, 0, 1, 2))
	becomes(t, "(begin 1 (begin 2 3))", foInt(7, 1), foInt(16, 2), foInt(18, 3), foSeq(9, 1, 2), foSeq(0, 0, 3))
	becomes(t, "(f (begin 1))", foName(1, "f"), foInt(10, 1), foCall(0, 0, 1))
	wrongAtMark(t, "@(begin)", "(f @(begin))", "(begin @(begin))", "(begin @())", "(begin 1 @() ())")
}

func TestP8_3_Define(t *testing.T) {
	becomes(t, "(define x 1)", foInt(10, 1), foDef(0, "x", 0))
	becomes(t, " (define x (f))", foName(12, "f"), foCall(11, 0), foDef(1, "x", 1))
	becomes(t, "(define car car)", foName(12, "car"), foDef(0, "car", 0))
	becomes(t, "(define x '())", foQuote(10, 3), foDef(0, "x", 0))
	wrongAtMark(t, "@(define)", "@(define x)", "@(define x 1 2)", "@(define 1 2)", "@(define #f 2)", "@(define () 2)", "@(define x () ())", "@(define 5 ())", "(define x @())", "1 @(define)", "@(define (x))", "@(define ())")
}

func TestP8_3_DefineAFunction(t *testing.T) {
	becomes(t, "(define (f) 1)", foInt(12, 1), foFn(0, 0), foDef(0, "f", 1))
	becomes(t, "(define (f x) x 1)", foName(14, "x"), foInt(16, 1), foSeq(0, 0, 1), foFn(0, 2, "x"), foDef(0, "f", 3))
	becomes(t, " (define (f x y) (f y))", foName(18, "f"), foName(20, "y"), foCall(17, 0, 1), foFn(1, 2, "x", "y"), foDef(1, "f", 3))
	wrongAtMark(t, "@(define (f))", "@(define (1) 2)", "@(define ((f) x) 1)", "@(define ((f)) 1)", "@(define (f 1) 2)", "@(define (f (x)) 2)", "@(define (f x ()) 2)", "@(define (#t x) 2)", "@(define (f x x) 2)", "@(define (f 'x) 2)", "@(define (()) 2)", "@(define 'f 2)", "@(define (f 1) ())", "(define (f) @())", "(define (f x) 1 @() ())")
}

// Its own name is none of the names with which a function is called.
func TestP8_3_AFunctionMayHaveItsNameWithin(t *testing.T) {
	becomes(t, "(define (f f) f)", foName(14, "f"), foFn(0, 0, "f"), foDef(0, "f", 1))
	becomes(t, "(define (f x f) 1)", foInt(16, 1), foFn(0, 0, "x", "f"), foDef(0, "f", 1))
}

func TestP8_3_DefineElsewhere(t *testing.T) {
	for _, d := range []string{"@(define x 1)", "@(define (f) 1)", "@(define)", "@(define x ())"} {
		wrongAtMark(t, "(f "+d+")", "("+d+")", "("+d+" 1)", "(begin "+d+")", "(begin 1 "+d+")", "(begin "+d+" 1)", "(lambda () "+d+")", "(lambda () "+d+" 1)", "(let () "+d+")", "(let ((x "+d+")) 1)", "(let* () "+d+")", "(let* ((x "+d+")) 1)", "(if "+d+" 1)", "(if 1 "+d+")", "(if 1 2 "+d+")", "(set! x "+d+")", "(define y "+d+")", "(define (g) "+d+")", "(define (g) "+d+" (g))", "(and "+d+")", "(and 1 "+d+")", "(or "+d+")", "(or 1 "+d+")", "(or "+d+" 1)", "(when 1 "+d+")", "(when "+d+" 1)", "(unless 1 "+d+")", "(cond (1 "+d+"))", "(cond ("+d+" 1))", "(cond (else "+d+"))", "(cond (1 2) (else "+d+"))", "(define a 1) (f "+d+") (define b 2)")
	}
	right(t, "'(define x 1)")
	right(t, "(define x 1) (define y 2) 3 (define (f) x)")
}

func TestP8_3_Let(t *testing.T) {
	becomes(t, "(let () 1)", foInt(8, 1), foFn(0, 0), foCall(0, 1))
	becomes(t, "(let ((x 1)) x)", foName(13, "x"), foFn(0, 0, "x"), foInt(9, 1), foCall(0, 1, 2))
	becomes(t, " (let ((x 1) (y (f))) y x)", foName(22, "y"), foName(24, "x"), foSeq(1, 0, 1), foFn(1, 2, "x", "y"), foInt(10, 1), foName(17, "f"), foCall(16, 5), foCall(1, 3, 4, 6))
	becomes(t, "(let ((b 1) (a 2) (c 3)) 4)", foInt(25, 4), foFn(0, 0, "b", "a", "c"), foInt(9, 1), foInt(15, 2), foInt(21, 3), foCall(0, 1, 2, 3, 4))
	becomes(t, "(let ((x (let () 2))) 3)", foInt(22, 3), foFn(0, 0, "x"), foInt(17, 2), foFn(9, 2), foCall(9, 3), foCall(0, 1, 4))
	wrongAtMark(t, "@(let)", "@(let ())", "@(let x 1)", "@(let 1 1)", "@(let #t 1)", "@(let (x) 1)", "@(let (()) 1)", "@(let ((x)) 1)", "@(let ((x 1 2)) 1)", "@(let (x 1) 1)", "@(let ((1 2)) 1)", "@(let ((#t 2)) 1)", "@(let ((() 2)) 1)", "@(let (((x) 2)) 1)", "@(let ((x 1) y) 1)", "@(let ((x 1) (y)) 1)", "@(let ((x 1) (2 3)) 1)", "@(let ((x 1)))", "@(let x ((y 1)) 1)", "@(let ((x ()) (y)) ())", "@(let ((x 1) (x ())) ())", "(let ((x ())) @())", "(let ((x @())) 1)", "(let ((x 1) (y @()) (z ())) 1)")
	right(t, "(let ((x 'y)) 1)")
}

// A pair may be written as a quote, as that is a list of two; but its name is reserved.
func TestP8_3_AQuoteIsNoPair(t *testing.T) {
	wrongAtMark(t, "@(let ('x) 1)", "@(let* ('x) 1)", "@(let 'x 1)", "@(let* 'x 1)", "@(let* ((x 1) 'y) 1)", "@(let ((x 1) 'y) 1)", "@(lambda 'x 1)", "@(define 'x 1)")
}

func TestP8_3_LetStar(t *testing.T) {
	becomes(t, "(let* () 1)", foInt(9, 1))
	becomes(t, "(let* () (f) 2)", foName(10, "f"), foCall(9, 0), foInt(13, 2), foSeq(0, 1, 2))
	becomes(t, "(let* ((x 1)) x)", foName(14, "x"), foFn(0, 0, "x"), foInt(10, 1), foCall(0, 1, 2))
	becomes(t, " (let* ((x 1)) x 2)", foName(15, "x"), foInt(17, 2), foSeq(1, 0, 1), foFn(1, 2, "x"), foInt(11, 1), foCall(1, 3, 4))
	becomes(t, "(let* ((x 1) (y x)) y)", foName(20, "y"), foFn(0, 0, "y"), foName(16, "x"), foCall(0, 1, 2), foFn(0, 3, "x"), foInt(10, 1), foCall(0, 4, 5))
	becomes(t, "(let* ((a 1) (b 2) (c 3)) 4 5)", foInt(26, 4), foInt(28, 5), foSeq(0, 0, 1), foFn(0, 2, "c"), foInt(22, 3), foCall(0, 3, 4), foFn(0, 5, "b"), foInt(16, 2), foCall(0, 6, 7), foFn(0, 8, "a"), foInt(10, 1), foCall(0, 9, 10))
	wrongAtMark(t, "@(let*)", "@(let* ())", "@(let* x 1)", "@(let* 1 1)", "@(let* #f 1)", "@(let* (x) 1)", "@(let* (()) 1)", "@(let* ((x)) 1)", "@(let* ((x 1 2)) 1)", "@(let* ((1 2)) 1)", "@(let* ((() 2)) 1)", "@(let* ((x 1) y) 1)", "@(let* ((x 1) (y)) 1)", "@(let* ((x 1) (2 3)) 1)", "@(let* ((x 1) (y 1) ((z) 1)) 1)", "@(let* ((x 1)))", "@(let* ((x ()) (1 2)) ())", "(let* ((x ()) (y ())) @())", "(let* ((x ()) (y @())) 1)", "(let* ((x @()) (y 2)) 1)", "(let* ((x ()) (y ()) (z @())) 1)")
}

func TestP8_3_ANameTwice(t *testing.T) {
	wrongAtMark(t, "@(lambda (x x) 1)", "@(lambda (x y x) 1)", "@(lambda (y x x) 1)", "@(define (f x x) 1)", "@(define (f a b c a) 1)", "@(let ((x 1) (x 2)) x)", "@(let ((x 1) (y 2) (x 3)) x)", "@(let ((x 1) (y 2) (y 3)) x)")
	right(t, "(lambda (x X xx) 1)")
	right(t, "(lambda (x) (lambda (x) (let ((x x)) x)))")
	right(t, "(let* ((x 1) (x 2) (y 3) (x 4)) x)")
	becomes(t, "(let* ((x 1) (x 2)) x)", foName(20, "x"), foFn(0, 0, "x"), foInt(16, 2), foCall(0, 1, 2), foFn(0, 3, "x"), foInt(10, 1), foCall(0, 4, 5))
}

// names are so many of them, each another one, with this ahead and behind.
func names(count int, ahead, behind string) string {
	s := ""
	for i := range count {
		s += ahead + "n" + strconv.Itoa(i) + behind + " "
	}
	return s
}

func TestP8_3_ManyNames(t *testing.T) {
	for _, count := range []int{0, 1, 2, mostNames - 1, mostNames} {
		var want []string
		for i := range count {
			want = append(want, "n"+strconv.Itoa(i))
		}
		for _, s := range []string{"(lambda (" + names(count, "", "") + ") 1)", "(define (f " + names(count, "", "") + ") 1)", "(let (" + names(count, "(", " 2)") + ") 1)"} {
			l, at := row(t, s)
			f, _, _, e := expand.Expand(l, at)
			if e != api.OK || f[1].Kind != api.FoFn || !slices.Equal(f[1].P, want) {
				t.Fatal(s, f, e)
			}
		}
	}
	for _, count := range []int{mostNames + 1, mostNames + 2, 2 * mostNames, 356} {
		wrongAtMark(t, "@(lambda ("+names(count, "", "")+") 1)", "1 @(define (f "+names(count, "", "")+") 1)", "(f @(let ("+names(count, "(", " 2)")+") ()))", "@(lambda ("+names(count, "", "")+") ())")
	}
	wrongAtMark(t, "@(lambda ("+names(mostNames-1, "", "")+" n98) 1)", "@(lambda ("+names(mostNames-1, "", "")+" n0) 1)", "@(lambda ("+names(mostNames, "", "")+" n0) 1)", "@(lambda ("+names(mostNames-1, "", "")+" if) 1)")
}

// In let*, each name has a function of its own, so there may be more.
func TestP8_3_ManyNamesInLetStar(t *testing.T) {
	for _, count := range []int{mostNames, mostNames + 1, 3 * mostNames} {
		l, at := row(t, "(let* ("+names(count, "(", " 2)")+") 1)")
		f, own, wrong, e := expand.Expand(l, at)
		if len(f) != 3*count+1 || !slices.Equal(own, tops(3*count)) || wrong != 0 || e != api.OK {
			t.Fatal(count, len(f), own, wrong, e)
		}
		for i := range count {
			if fn := f[3*i+1]; fn.Kind != api.FoFn || !slices.Equal(fn.P, []string{"n" + strconv.Itoa(count-1-i)}) {
				t.Fatal(count, i, fn)
			}
		}
	}
}

// A reserved name can't be bound; one that only looks like it can.
func TestP8_3_ReservedNamesThatAreBound(t *testing.T) {
	for _, s := range reservedNames() {
		wrongAtMark(t, "@(lambda ("+s+") 1)", "@(lambda (x "+s+" y) ())", "@(set! "+s+" 1)", "@(set! "+s+" ())", "@(define "+s+" 1)", "@(define ("+s+") 1)", "@(define ("+s+" x) 1)", "@(define (f "+s+") 1)", "@(define (f x "+s+") 1)", "@(let (("+s+" 1)) 1)", "@(let ((x 1) ("+s+" 1)) 1)", "@(let* (("+s+" 1)) 1)", "@(let* ((x ()) ("+s+" 1)) 1)")
		for _, near := range []string{s + "-", "x" + s} {
			right(t, "(lambda ("+near+") 1) (set! "+near+" 1) (define "+near+" 1) (define ("+near+" "+near+") 1) (let (("+near+" 1)) "+near+") (let* (("+near+" 1)) "+near+")")
		}
	}
}

func TestP8_3_And(t *testing.T) {
	becomes(t, " (and)", foBool(1, 1))
	becomes(t, "(and 1)", foInt(5, 1))
	becomes(t, "(and (f))", foName(6, "f"), foCall(5, 0))
	becomes(t, "(and a b)", foName(5, "a"), foName(7, "b"), foBool(0, 0), foIf(0, 0, 1, 2))
	becomes(t, " (and a b c)", foName(6, "a"), foName(8, "b"), foName(10, "c"), foBool(1, 0), foIf(1, 1, 2, 3), foBool(1, 0), foIf(1, 0, 4, 5))
	becomes(t, "(and (and) (and 2 3))", foBool(5, 1), foInt(16, 2), foInt(18, 3), foBool(11, 0), foIf(11, 1, 2, 3), foBool(0, 0), foIf(0, 0, 4, 5))
	wrongAtMark(t, "(and @())", "(and @() ())", "(and 1 @())", "(and 1 2 @() ())", "(and (and @if) ())")
}

func TestP8_3_Or(t *testing.T) {
	becomes(t, " (or)", foBool(1, 0))
	becomes(t, "(or 1)", foInt(4, 1))
	becomes(t, "(or (f))", foName(5, "f"), foCall(4, 0))
	becomes(t, "(or a b)", foName(0, " "), foName(0, " "), foName(6, "b"), foIf(0, 0, 1, 2), foFn(0, 3, " "), foName(4, "a"), foCall(0, 4, 5))
	becomes(t, " (or a b c)", foName(1, " "), foName(1, " "), foName(1, " "), foName(1, " "), foName(9, "c"), foIf(1, 2, 3, 4), foFn(1, 5, " "), foName(7, "b"), foCall(1, 6, 7), foIf(1, 0, 1, 8), foFn(1, 9, " "), foName(5, "a"), foCall(1, 10, 11))
	wrongAtMark(t, "(or @())", "(or () @())", "(or @() 1)", "(or () 2 @())", "(or () @() 3)", "(or @() 2 3)", "(or () (or () @()))")
}

func TestP8_3_When(t *testing.T) {
	becomes(t, "(when x 1)", foName(6, "x"), foInt(8, 1), foBool(0, 0), foIf(0, 0, 1, 2))
	becomes(t, " (when x 1 2)", foName(7, "x"), foInt(9, 1), foInt(11, 2), foSeq(1, 1, 2), foBool(1, 0), foIf(1, 0, 3, 4))
	becomes(t, "(when (f) 1 2 3)", foName(7, "f"), foCall(6, 0), foInt(10, 1), foInt(12, 2), foInt(14, 3), foSeq(0, 2, 3, 4), foBool(0, 0), foIf(0, 1, 5, 6))
	wrongAtMark(t, "@(when)", "@(when 1)", "@(when ())", "(1 @(when))", "(when @() ())", "(when 1 @())", "(when 1 2 @() ())")
}

func TestP8_3_Unless(t *testing.T) {
	becomes(t, "(unless x 1)", foName(8, "x"), foBool(0, 0), foInt(10, 1), foIf(0, 0, 1, 2))
	becomes(t, " (unless x 1 2)", foName(9, "x"), foBool(1, 0), foInt(11, 1), foInt(13, 2), foSeq(1, 2, 3), foIf(1, 0, 1, 4))
	wrongAtMark(t, "@(unless)", "@(unless 1)", "@(unless ())", "(unless @() ())", "(unless 1 @())", "(unless 1 2 @() ())")
}

func TestP8_3_Cond(t *testing.T) {
	becomes(t, "(cond (a 1))", foName(7, "a"), foInt(9, 1), foBool(0, 0), foIf(0, 0, 1, 2))
	becomes(t, " (cond (a 1 2))", foName(8, "a"), foInt(10, 1), foInt(12, 2), foSeq(7, 1, 2), foBool(1, 0), foIf(1, 0, 3, 4))
	becomes(t, "(cond (a 1) (b 2))", foName(7, "a"), foInt(9, 1), foName(13, "b"), foInt(15, 2), foBool(0, 0), foIf(0, 2, 3, 4), foIf(0, 0, 1, 5))
	becomes(t, "(cond (a 1) (b 2) ((f) 3 4))", foName(7, "a"), foInt(9, 1), foName(13, "b"), foInt(15, 2), foName(20, "f"), foCall(19, 4), foInt(23, 3), foInt(25, 4), foSeq(18, 6, 7), foBool(0, 0), foIf(0, 5, 8, 9), foIf(0, 2, 3, 10), foIf(0, 0, 1, 11))
}

func TestP8_3_CondWithElse(t *testing.T) {
	becomes(t, "(cond (else 1))", foInt(12, 1))
	becomes(t, " (cond (else 1 2))", foInt(13, 1), foInt(15, 2), foSeq(7, 0, 1))
	becomes(t, "(cond (1 2) (else 3))", foInt(7, 1), foInt(9, 2), foInt(18, 3), foIf(0, 0, 1, 2))
	becomes(t, "(cond (a 1 2) (b 3) (else (f) 5))", foName(7, "a"), foInt(9, 1), foInt(11, 2), foSeq(6, 1, 2), foName(15, "b"), foInt(17, 3), foName(27, "f"), foCall(26, 6), foInt(30, 5), foSeq(20, 7, 8), foIf(0, 4, 5, 9), foIf(0, 0, 3, 10))
	becomes(t, "(cond ('else 1))", foQuote(7, 2), foInt(13, 1), foBool(0, 0), foIf(0, 0, 1, 2))
	becomes(t, "(cond ((if a b) 1))", foName(11, "a"), foName(13, "b"), foBool(7, 0), foIf(7, 0, 1, 2), foInt(16, 1), foBool(0, 0), foIf(0, 3, 4, 5))
}

func TestP8_3_CondThatIsWrong(t *testing.T) {
	wrongAtMark(t,
		"@(cond)", "(f @(cond))",
		"(cond @1)", "(cond @x)", "(cond @else)", "(cond @#t)", "(cond @())", "(cond @(1))", "(cond @(()))", "(cond @(else))", "(cond @(if))",
		"(cond (1 2) @3)", "(cond (1 2) @else)", "(cond (1 2) @())", "(cond (1 2) @(3))", "(cond (1 2) @(else))", "(cond (1 2) @(()) ())",
		"(cond @(else 1) (1 2))", "(cond @(else 1) (else 2))", "(cond (1 2) @(else 3) (4 5))", "(cond @(else ()) 1)", "(cond @(else) (else 1))", "(cond @(else 1) ())",
	)
}

// What is wrong in a clause is not wrong before the clause is reached, and what is wrong behind it is not seen.
func TestP8_3_ClausesAreReachedInTheirOrder(t *testing.T) {
	wrongAtMark(t,
		"(cond (@() 1) ())", "(cond (1 @()) 2)", "(cond (@if 1) (else))", "(cond (1 2 @()) (else 1) (3 4))", "(cond (1 (f @())) (()))",
		"(cond (1 2) @() (()))", "(cond (1 2) (@() ()) 3)", "(cond (1 2) (3 4) @5 6)", "(cond (1 2) (else @() ()))", "(cond (@if 1))", "(cond (@cond 1))", "(cond (@(if) ()))",
	)
}

// A list's shape is looked at before its parts, and the parts in the order of their forms.
func TestP8_3_WhichOneIsWrong(t *testing.T) {
	wrongAtMark(t,
		"@(if () () () ())", "(f @() (if))", "(f (g @()) ())", "((if @() 1) (if))", "(if @(quote) ())",
		"@(lambda (1) ())", "@(let ((1 ())) ())", "@(let* ((1 ())) ())", "@(set! () ())", "@(define () ())",
		"(let ((x ()) (y ())) 1 @() 2)", "(let ((x @()) (y ())) 1)", "(let ((x 1) (y @())) 1)",
		"(let* ((x ()) (y ())) @else)", "(or (if) (f @()))", "(or (if) (f) @())", "(or @(if) 2)",
		"(and @(if) ())", "(when @(if) ())", "(unless @(if) ())", "(begin @() (if))",
		"((lambda (x) @()) ())", "(f (let ((x ())) @(lambda)) ())", "(let ((x (or () @()))) 1)",
	)
}

// The empty name can't be bound.
func TestP8_3_TheEmptyNameCantBeBound(t *testing.T) {
	word := func(s string) api.Node { return name(1, s) }
	for _, s := range []string{"", "x", " "} {
		e := api.OK
		if s == "" {
			e = api.ErrForm
		}
		for _, l := range [][]api.Node{
			{word("lambda"), word(s), list(5, 1), number(6, 1), list(0, 0, 2, 3)},
			{word("lambda"), word("y"), word(s), list(5, 1, 2), number(6, 1), list(0, 0, 3, 4)},
			{word("set!"), word(s), number(6, 1), list(0, 0, 1, 2)},
			{word("define"), word(s), number(6, 1), list(0, 0, 1, 2)},
			{word("define"), word(s), list(5, 1), number(6, 1), list(0, 0, 2, 3)},
			{word("define"), word("f"), word(s), list(5, 1, 2), number(6, 1), list(0, 0, 3, 4)},
			{word("let"), word(s), number(3, 1), list(4, 1, 2), list(5, 3), number(6, 1), list(0, 0, 4, 5)},
			{word("let*"), word(s), number(3, 1), list(4, 1, 2), list(5, 3), number(6, 1), list(0, 0, 4, 5)},
		} {
			l[len(l)-1].At = 77
			f, own, at, got := expand.Expand(l, tops(len(l)-1))
			if got != e || e != api.OK && (at != 77 || len(f) > 0 || len(own) > 0) || e == api.OK && (at != 0 || len(f) < 2 || len(own) != 1) {
				t.Errorf("%q, %v: %v, %v, %d, %d", s, l, f, own, at, got)
			}
		}
	}
}

// A list that begins with an empty name is a call.
func TestP8_2_TheEmptyNameIsAForm(t *testing.T) {
	answers(t, data(name(3, "")), tops(0), forms(foName(3, "")), tops(0), 0, api.OK)
	answers(t, data(name(3, ""), list(2, 0)), tops(1), forms(foName(3, ""), foCall(2, 0)), tops(1), 0, api.OK)
}

// The places of data tell nothing: they may all be the same, or go back.
func TestP8_3_AtIsThatOfTheDatum(t *testing.T) {
	l := data(name(90, "or"), name(80, "a"), name(70, "b"), name(60, "c"), list(50, 0, 1, 2, 3))
	answers(t, l, tops(4), forms(foName(50, " "), foName(50, " "), foName(50, " "), foName(50, " "), foName(60, "c"), foIf(50, 2, 3, 4), foFn(50, 5, " "), foName(70, "b"), foCall(50, 6, 7), foIf(50, 0, 1, 8), foFn(50, 9, " "), foName(80, "a"), foCall(50, 10, 11)), tops(12), 0, api.OK)
	l = data(name(9, "cond"), name(8, "a"), number(7, 1), number(6, 2), list(5, 1, 2, 3), name(4, "else"), number(3, 3), number(2, 4), list(1, 5, 6, 7), list(math.MaxInt, 0, 4, 8))
	answers(t, l, tops(9), forms(foName(8, "a"), foInt(7, 1), foInt(6, 2), foSeq(5, 1, 2), foInt(3, 3), foInt(2, 4), foSeq(1, 4, 5), foIf(math.MaxInt, 0, 3, 6)), tops(7), 0, api.OK)
	l = data(name(9, "let*"), name(8, "x"), number(7, 1), list(6, 1, 2), list(5, 3), number(4, 2), number(3, 3), list(2, 0, 4, 5, 6))
	answers(t, l, tops(7), forms(foInt(4, 2), foInt(3, 3), foSeq(2, 0, 1), foFn(2, 2, "x"), foInt(7, 1), foCall(2, 3, 4)), tops(5), 0, api.OK)
	l = data(name(9, "define"), name(8, "f"), name(7, "x"), list(6, 1, 2), number(5, 1), number(4, 2), list(3, 0, 3, 4, 5))
	answers(t, l, tops(6), forms(foInt(5, 1), foInt(4, 2), foSeq(3, 0, 1), foFn(3, 2, "x"), foDef(3, "f", 3)), tops(4), 0, api.OK)
}

// Each derived form is what it would be if it were written out.
func TestP8_3_WrittenOut(t *testing.T) {
	for a, b := range map[string]string{
		"(if a b)":                            "(if a b #f)",
		"(begin a)":                           "a",
		"(lambda (x) a b)":                    "(lambda (x) (begin a b))",
		"(define (f x y) a b)":                "(define f (lambda (x y) a b))",
		"(let ((x a) (y b)) c d)":             "((lambda (x y) c d) a b)",
		"(let () a)":                          "((lambda () a))",
		"(let* ((x a) (y b) (z c)) d e)":      "(let ((x a)) (let ((y b)) (let ((z c)) d e)))",
		"(let* () a b)":                       "(begin a b)",
		"(and)":                               "#t",
		"(and a)":                             "a",
		"(and a b c d)":                       "(if a (if b (if c d #f) #f) #f)",
		"(or)":                                "#f",
		"(or a)":                              "a",
		"(or a b c)":                          "(or a (or b c))",
		"(when a b c)":                        "(if a (begin b c) #f)",
		"(unless a b c)":                      "(if a #f (begin b c))",
		"(cond (a b) (c d e) (else f g))":     "(if a b (if c (begin d e) (begin f g)))",
		"(cond (a b) (c d))":                  "(if a b (if c d #f))",
		"(cond (else a))":                     "a",
		"(f (when a b) (cond (a (and b c))))": "(f (if a b #f) (if a (if b c #f) #f))",
		"(let ((x (let* ((y a)) y))) (or x))": "((lambda (x) x) ((lambda (y) y) a))",
	} {
		alike(t, a, b)
	}
}

func TestP8_3_TheExample(t *testing.T) {
	becomes(t, "(when x 1 2)", foName(6, "x"), foInt(8, 1), foInt(10, 2), foSeq(0, 1, 2), foBool(0, 0), foIf(0, 0, 3, 4))
}

// nest puts so many lists around the last datum of a row: of some data ahead, the datum so far, and some behind.
func nest(count int, l []api.Node, ahead, behind []api.Node) []api.Node {
	for range count {
		inner := len(l) - 1
		var parts []int
		for _, x := range ahead {
			parts = append(parts, len(l))
			l = append(l, x)
		}
		parts = append(parts, inner)
		for _, x := range behind {
			parts = append(parts, len(l))
			l = append(l, x)
		}
		l = append(l, list(0, parts...))
	}
	return l
}

// The calls are not as deep as the data, which may be deeper than a stack has room.
func TestP8_2_DeepData(t *testing.T) {
	const count = 50000
	old := debug.SetMaxStack(1 << 20)
	defer debug.SetMaxStack(old)
	one := number(0, 1)
	for i, x := range []struct {
		ahead, behind []api.Node
		each          int
	}{
		{data(name(0, "f")), data(one), 3},
		{nil, nil, 1},
		{data(name(0, "begin")), nil, 0},
		{data(name(0, "begin"), one), nil, 2},
		{data(name(0, "and")), nil, 0},
		{data(name(0, "and"), one), nil, 3},
		{data(name(0, "or")), nil, 0},
		{data(name(0, "or")), data(one), 6},
		{data(name(0, "or"), one), nil, 6},
		{data(name(0, "if")), data(one, one), 3},
		{data(name(0, "if"), one, one), nil, 3},
		{data(name(0, "when"), one), nil, 3},
		{data(name(0, "unless")), data(one), 3},
		{data(name(0, "lambda"), list(0)), nil, 1},
		{data(name(0, "let"), list(0)), nil, 2},
		{data(name(0, "let*"), list(0)), nil, 0},
		{data(name(0, "set!"), name(0, "x")), nil, 1},
	} {
		for _, last := range []api.Node{number(0, 5), list(9)} {
			l := nest(count, data(last), x.ahead, x.behind)
			f, own, at, e := expand.Expand(l, tops(len(l)-1))
			if last.Kind == api.DatInt && (len(f) != 1+count*x.each || !slices.Equal(own, tops(len(f)-1)) || at != 0 || e != api.OK) {
				t.Error(i, len(f), own, at, e)
			}
			if last.Kind == api.DatList && (len(f) != 0 || len(own) != 0 || at != 9 || e != api.ErrForm) {
				t.Error(i, len(f), own, at, e)
			}
		}
	}
}

// A cond that is within the else of another, and a let* within the value of another.
func TestP8_3_DeepClauses(t *testing.T) {
	const count = 50000
	old := debug.SetMaxStack(1 << 20)
	defer debug.SetMaxStack(old)
	l := data(number(0, 5))
	for range count {
		i := len(l)
		l = append(l, name(0, "cond"), name(0, "else"), list(0, i+1, i-1), list(0, i, i+2))
	}
	answers(t, l, tops(len(l)-1), forms(foInt(0, 5)), tops(0), 0, api.OK)
	l = data(number(0, 5))
	for range count {
		i := len(l)
		l = append(l, name(0, "let*"), name(0, "x"), list(0, i+1, i-1), list(0, i+2), number(0, 1), list(0, i, i+3, i+4))
	}
	if f, own, at, e := expand.Expand(l, tops(len(l)-1)); len(f) != 1+3*count || len(own) != 1 || at != 0 || e != api.OK {
		t.Error(len(f), own, at, e)
	}
}

// long is a list of a reserved name, some data, and then so many of another datum, each made on its own.
func long(count int, ahead []api.Node, behind func(l []api.Node) []api.Node) []api.Node {
	l := slices.Clone(ahead)
	var parts []int
	for i := range l {
		parts = append(parts, i)
	}
	for range count {
		l = behind(l)
		parts = append(parts, len(l)-1)
	}
	return append(l, list(0, parts...))
}

func TestP8_3_LongLists(t *testing.T) {
	const count = 50000
	old := debug.SetMaxStack(1 << 20)
	defer debug.SetMaxStack(old)
	one := func(l []api.Node) []api.Node { return append(l, number(0, 1)) }
	clause := func(l []api.Node) []api.Node {
		return append(l, number(0, 1), number(0, 2), list(0, len(l), len(l)+1))
	}
	pair := func(l []api.Node) []api.Node {
		return append(l, name(0, "x"), number(0, 2), list(0, len(l), len(l)+1))
	}
	for i, x := range []struct {
		l    []api.Node
		want int
	}{
		{long(count, nil, one), count + 1},
		{long(count, data(name(0, "f")), one), count + 2},
		{long(count, data(name(0, "begin")), one), count + 1},
		{long(count, data(name(0, "when")), one), count + 3},
		{long(count, data(name(0, "lambda"), list(0)), one), count + 2},
		{long(count, data(name(0, "and")), one), 3*(count-1) + 1},
		{long(count, data(name(0, "or")), one), 6*(count-1) + 1},
		{long(count, data(name(0, "cond")), clause), 3*count + 1},
	} {
		f, own, at, e := expand.Expand(x.l, tops(len(x.l)-1))
		if len(f) != x.want || !slices.Equal(own, tops(x.want-1)) || at != 0 || e != api.OK {
			t.Error(i, len(f), x.want, own, at, e)
		}
	}
	for _, s := range []string{"let", "let*"} {
		l := long(count, nil, pair)
		pairs := len(l) - 1
		l = append(l, name(0, s), number(0, 1), list(5, pairs+1, pairs, pairs+2))
		f, _, at, e := expand.Expand(l, tops(len(l)-1))
		if s == "let" && (at != 5 || e != api.ErrForm) || s == "let*" && (len(f) != 3*count+1 || e != api.OK) {
			t.Error(s, len(f), at, e)
		}
	}
}

// scribble writes over all the memory that belongs to a list, and answers what was there.
func scribble[T any](l []T, x T) []T {
	l = l[:cap(l)]
	old := slices.Clone(l)
	for i := range l {
		l[i] = x
	}
	return old
}

const allShapes = "(define (f x y) (or x y (and x y 1) (f 1 2))) (define k '(a b)) (let ((x 1) (y 2)) (when x 1 2) (unless y 3)) (let* ((x 1) (y 2)) (set! x y) (begin 1 2 3)) (cond (1 2 3) (4 5) (else (if 1 2) (if 1 2 3))) (lambda (a b c) a) (lambda () (f)) #t x (or) (and) (or (or 1 2) 3)"

func TestP8_1_ResultsShareNoMemory(t *testing.T) {
	l, at := row(t, allShapes)
	f, own, _, e := expand.Expand(l, at)
	want, wantOwn := copyForms(f), slices.Clone(own)
	if e != api.OK || len(f) < 90 {
		t.Fatal(len(f), e)
	}
	for i := range f {
		l, p := scribble(f[i].L, -99), scribble(f[i].P, "scribbled")
		others := append(slices.Clone(f[:i]), f[i+1:]...)
		if !slices.EqualFunc(others, slices.Delete(copyForms(want), i, i+1), sameForm) || !slices.Equal(own, wantOwn) {
			t.Fatal(i, "shares")
		}
		copy(f[i].L[:len(l)], l)
		copy(f[i].P[:len(p)], p)
	}
	scribble(own, -99)
	scribble(f, api.Form{})
	answers(t, l, at, want, wantOwn, 0, api.OK)
	clear(l[:cap(l)])
	scribble(at, -99)
	l, at = row(t, allShapes)
	answers(t, l, at, want, wantOwn, 0, api.OK)
}

// What is answered stays, whatever happens to the data.
func TestP8_1_TheDataAreNotKept(t *testing.T) {
	l, at := row(t, allShapes)
	f, own, _, _ := expand.Expand(l, at)
	want, wantOwn := copyForms(f), slices.Clone(own)
	for i := range l {
		scribble(l[i].L, -99)
	}
	scribble(l, api.Node{})
	scribble(at, -99)
	if !slices.EqualFunc(f, want, sameForm) || !slices.Equal(own, wantOwn) {
		t.Error(f, own)
	}
}

func TestP8_1_TheNamesAreNewMemory(t *testing.T) {
	text := []byte("some")
	some := name(0, unsafe.String(&text[0], len(text)))
	l := data(some, name(0, "set!"), some, some, list(0, 1, 2, 3), name(0, "lambda"), some, list(0, 6), number(0, 1), list(0, 5, 7, 8), name(0, "define"), some, number(0, 1), list(0, 10, 11, 12), name(0, "let*"), some, number(0, 1), list(0, 15, 16), list(0, 17), number(0, 1), list(0, 14, 18, 19), name(0, "or"), some, some, some, list(0, 21, 22, 23, 24))
	f, _, at, e := expand.Expand(l, tops(0, 4, 9, 13, 20, 25))
	if e != api.OK {
		t.Fatal(at, e)
	}
	want := copyForms(f)
	for i := range want {
		want[i].S = strings.Clone(f[i].S)
		for k := range want[i].P {
			want[i].P[k] = strings.Clone(f[i].P[k])
		}
	}
	copy(text, "####")
	if !slices.EqualFunc(f, want, sameForm) {
		t.Fatal(f, want)
	}
	place := map[*byte]int{}
	for _, x := range f {
		for _, s := range append([]string{x.S}, x.P...) {
			if s != "" {
				place[unsafe.StringData(s)]++
			}
		}
	}
	for _, count := range place {
		if count > 1 {
			t.Error("shared", place)
		}
	}
}

// What lies beyond the length of a slice is not read.
func TestP8_1_BeyondTheLength(t *testing.T) {
	l, at := row(t, "(if a b c) (lambda (x y) 1) (let ((x 1)) 2) (define k 1) ((f) (g 2 3))")
	f, own, _, _ := expand.Expand(l, at)
	wide := copyData(l)
	for i := range wide {
		if wide[i].Kind == api.DatList {
			n := len(wide[i].L)
			wide[i].L = append(wide[i].L, 0, -1, 999, math.MaxInt)[:n]
		}
	}
	wide = append(wide, api.Node{}, api.Node{Kind: 99, At: -1})[:len(l)]
	far := append(slices.Clone(at), -1, 999)[:len(at)]
	answers(t, wide, far, f, own, 0, api.OK)
}

// slow is a second way: it calls itself for each datum, and gives up by a panic.
type slow struct {
	l     []api.Node
	forms []api.Form
}

type bad struct{ at int }

func slowly(l []api.Node, at []int) (f []api.Form, own []int, wrong int, e api.Errno) {
	m := slow{l: l}
	defer func() {
		if x, ok := recover().(bad); ok {
			f, own, wrong, e = nil, nil, x.at, api.ErrForm
		}
	}()
	for _, i := range at {
		own = append(own, m.datum(i, true))
	}
	return m.forms, own, 0, api.OK
}

func (m *slow) add(f api.Form) int {
	m.forms = append(m.forms, f)
	return len(m.forms) - 1
}

func (m *slow) each(l []int) []int {
	var all []int
	for _, i := range l {
		all = append(all, m.datum(i, false))
	}
	return all
}

func must(ok bool, at int) {
	if !ok {
		panic(bad{at})
	}
}

func (m *slow) isName(i int) bool {
	return m.l[i].Kind == 3 && m.l[i].S != "" && !slices.Contains(reservedNames(), m.l[i].S)
}

func (m *slow) names(l []int, at int) []string {
	seen := map[string]int{}
	var all []string
	for _, i := range l {
		must(m.isName(i), at)
		seen[m.l[i].S]++
		all = append(all, m.l[i].S)
	}
	must(len(seen) == len(all) && len(all) <= 100, at)
	return all
}

func (m *slow) body(at int, l []int) int {
	if len(l) == 1 {
		return m.datum(l[0], false)
	}
	return m.add(foSeq(at, m.each(l)...))
}

func (m *slow) datum(i int, top bool) int {
	d := m.l[i]
	switch d.Kind {
	case 1:
		return m.add(foInt(d.At, d.N))
	case 2:
		return m.add(foBool(d.At, d.N))
	case 3:
		must(!slices.Contains(reservedNames(), d.S), d.At)
		return m.add(foName(d.At, d.S))
	}
	must(len(d.L) > 0, d.At)
	first := m.l[d.L[0]]
	if first.Kind == 3 && slices.Contains(reservedNames(), first.S) {
		return m.special(first.S, d.At, d.L[1:], top)
	}
	return m.add(foCall(d.At, m.each(d.L)...))
}

func (m *slow) special(s string, at int, l []int, top bool) int {
	switch n := len(l); s {
	case "quote":
		must(n == 1, at)
		return m.add(foQuote(at, l[0]))
	case "if":
		must(n == 2 || n == 3, at)
		all := m.each(l)
		if n == 2 {
			all = append(all, m.add(foBool(at, 0)))
		}
		return m.add(foIf(at, all...))
	case "begin":
		must(n > 0, at)
		return m.body(at, l)
	case "and":
		return m.and(at, l)
	case "or":
		return m.or(at, l)
	case "cond":
		must(n > 0, at)
		return m.cond(at, l)
	}
	must(len(l) > 1, at)
	switch s {
	case "when":
		a, b := m.datum(l[0], false), m.body(at, l[1:])
		return m.add(foIf(at, a, b, m.add(foBool(at, 0))))
	case "unless":
		a, b := m.datum(l[0], false), m.add(foBool(at, 0))
		return m.add(foIf(at, a, b, m.body(at, l[1:])))
	}
	return m.binding(s, at, l, top)
}

func (m *slow) binding(s string, at int, l []int, top bool) int {
	d := m.l[l[0]]
	switch s {
	case "lambda":
		must(d.Kind == 4, at)
		p := m.names(d.L, at)
		return m.add(foFn(at, m.body(at, l[1:]), p...))
	case "set!":
		must(m.isName(l[0]) && len(l) == 2, at)
		return m.add(foSet(at, d.S, m.datum(l[1], false)))
	case "define":
		must(top, at)
		if d.Kind == 4 {
			must(len(d.L) > 0 && m.isName(d.L[0]), at)
			p := m.names(d.L[1:], at)
			return m.add(foDef(at, m.l[d.L[0]].S, m.add(foFn(at, m.body(at, l[1:]), p...))))
		}
		must(m.isName(l[0]) && len(l) == 2, at)
		return m.add(foDef(at, d.S, m.datum(l[1], false)))
	case "let", "let*":
		must(d.Kind == 4, at)
		for _, i := range d.L {
			must(m.l[i].Kind == 4 && len(m.l[i].L) == 2 && m.isName(m.l[i].L[0]), at)
		}
		if s == "let*" {
			return m.letStar(at, d.L, l[1:])
		}
		return m.let(at, d.L, l[1:])
	}
	panic(bad{at})
}

func (m *slow) let(at int, pairs, body []int) int {
	var bound, values []int
	for _, i := range pairs {
		bound, values = append(bound, m.l[i].L[0]), append(values, m.l[i].L[1])
	}
	p := m.names(bound, at)
	parts := []int{m.add(foFn(at, m.body(at, body), p...))}
	return m.add(foCall(at, append(parts, m.each(values)...)...))
}

func (m *slow) letStar(at int, pairs, body []int) int {
	if len(pairs) == 0 {
		return m.body(at, body)
	}
	pair := m.l[pairs[0]].L
	fn := m.add(foFn(at, m.letStar(at, pairs[1:], body), m.l[pair[0]].S))
	return m.add(foCall(at, fn, m.datum(pair[1], false)))
}

func (m *slow) cond(at int, clauses []int) int {
	if len(clauses) == 0 {
		return m.add(foBool(at, 0))
	}
	c := m.l[clauses[0]]
	must(c.Kind == 4 && len(c.L) > 1, c.At)
	if m.l[c.L[0]].Kind == 3 && m.l[c.L[0]].S == "else" {
		must(len(clauses) == 1, c.At)
		return m.body(c.At, c.L[1:])
	}
	a, b := m.datum(c.L[0], false), m.body(c.At, c.L[1:])
	return m.add(foIf(at, a, b, m.cond(at, clauses[1:])))
}

func (m *slow) and(at int, l []int) int {
	switch len(l) {
	case 0:
		return m.add(foBool(at, 1))
	case 1:
		return m.datum(l[0], false)
	}
	a, b := m.datum(l[0], false), m.and(at, l[1:])
	return m.add(foIf(at, a, b, m.add(foBool(at, 0))))
}

func (m *slow) or(at int, l []int) int {
	switch len(l) {
	case 0:
		return m.add(foBool(at, 0))
	case 1:
		return m.datum(l[0], false)
	}
	x, y := m.add(foName(at, " ")), m.add(foName(at, " "))
	fn := m.add(foFn(at, m.add(foIf(at, x, y, m.or(at, l[1:]))), " "))
	return m.add(foCall(at, fn, m.datum(l[0], false)))
}

// maker makes a random row, most of whose lists have the shape that their first name asks for. One of so many data is a fault.
type maker struct {
	r     *rand.Rand
	l     []api.Node
	fault int
	count int
}

// at is a place that no other datum has.
func (m *maker) at() int {
	m.count++
	return m.count * 7919 % 100003
}

func (m *maker) add(x api.Node) int {
	m.l = append(m.l, x)
	return len(m.l) - 1
}

func (m *maker) word(s string) int { return m.add(name(m.at(), s)) }

func (m *maker) list(l ...int) int { return m.add(list(m.at(), l...)) }

func (m *maker) isFault() bool { return m.r.Intn(m.fault) == 0 }

func (m *maker) bound(s string) int {
	if m.isFault() {
		if m.r.Intn(2) == 0 {
			return m.any(1)
		}
		return m.word([]string{"else", "if", "", "a", "b", "let*"}[m.r.Intn(6)])
	}
	return m.word(s)
}

// any is a datum that is often no form.
func (m *maker) any(depth int) int {
	switch k := m.r.Intn(6); {
	case k < 2 && depth > 0:
		var l []int
		if m.r.Intn(2) == 0 {
			l = append(l, m.word(reservedNames()[m.r.Intn(14)]))
		}
		for range m.r.Intn(4) {
			l = append(l, m.any(depth-1))
		}
		return m.list(l...)
	case k < 3:
		return m.word(reservedNames()[m.r.Intn(14)])
	case k < 4:
		return m.list()
	}
	return m.leaf()
}

func (m *maker) leaf() int {
	switch m.r.Intn(4) {
	case 0:
		return m.add(number(m.at(), m.r.Intn(100)-50))
	case 1:
		return m.add(boolean(m.at(), m.r.Intn(2)))
	}
	return m.word([]string{"a", "b", "c", "", " "}[m.r.Intn(5)])
}

func (m *maker) forms(least, depth int) []int {
	var l []int
	for range least + m.r.Intn(3) {
		l = append(l, m.form(depth))
	}
	return l
}

func (m *maker) with(s string, ahead []int, l []int) int {
	first := []int{m.word(s)}
	return m.list(append(append(first, ahead...), l...)...)
}

func (m *maker) names() []int {
	var l []int
	for _, k := range m.r.Perm(4)[:m.r.Intn(4)] {
		l = append(l, m.bound([]string{"a", "b", "c", "d"}[k]))
	}
	return l
}

func (m *maker) pairs(depth int) int {
	var l []int
	for _, i := range m.names() {
		value := []int{m.form(depth)}
		if m.isFault() {
			value = m.forms(0, 1)
		}
		l = append(l, m.list(append([]int{i}, value...)...))
	}
	return m.list(l...)
}

func (m *maker) form(depth int) int {
	if m.isFault() {
		return m.any(2)
	}
	if depth == 0 || m.r.Intn(5) == 0 {
		return m.leaf()
	}
	depth--
	switch s := append(reservedNames(), "call", "call")[m.r.Intn(16)]; s {
	case "quote":
		return m.with(s, nil, []int{m.any(2)})
	case "if":
		l := []int{m.form(depth), m.form(depth)}
		if m.r.Intn(2) == 0 {
			l = append(l, m.form(depth))
		}
		return m.with(s, nil, l)
	case "lambda":
		return m.with(s, []int{m.list(m.names()...)}, m.forms(1, depth))
	case "set!":
		return m.with(s, []int{m.bound("a")}, []int{m.form(depth)})
	case "let", "let*":
		return m.with(s, []int{m.pairs(depth)}, m.forms(1, depth))
	case "cond":
		return m.cond(depth)
	case "and", "or":
		return m.with(s, nil, m.forms(0, depth))
	case "begin":
		return m.with(s, nil, m.forms(1, depth))
	case "when", "unless":
		return m.with(s, []int{m.form(depth)}, m.forms(1, depth))
	}
	return m.list(m.forms(1, depth)...)
}

func (m *maker) cond(depth int) int {
	var l []int
	for range m.r.Intn(3) {
		l = append(l, m.list(m.forms(2, depth)...))
		if m.isFault() {
			l = append(l, m.any(1))
		}
	}
	if len(l) == 0 || m.r.Intn(2) == 0 {
		l = append(l, m.with("else", nil, m.forms(1, depth)))
	}
	if m.isFault() {
		l = append(l, m.list(m.forms(2, depth)...))
	}
	return m.with("cond", nil, l)
}

func (m *maker) top(depth int) int {
	switch m.r.Intn(4) {
	case 0:
		return m.with("define", []int{m.bound("a")}, []int{m.form(depth)})
	case 1:
		head := append([]int{m.bound("f")}, m.names()...)
		return m.with("define", []int{m.list(head...)}, m.forms(1, depth))
	}
	return m.form(depth)
}

func randomRow(r *rand.Rand) ([]api.Node, []int) {
	m := maker{r: r, fault: []int{10, 40, 200, math.MaxInt}[r.Intn(4)]}
	var at []int
	for range r.Intn(4) {
		at = append(at, m.top(r.Intn(5)))
	}
	if r.Intn(8) == 0 && len(m.l) > 0 {
		at = append(at, r.Intn(len(m.l)))
	}
	return m.l, at
}

// Random rows are held against the second way, good ones and bad ones.
func TestP8_3_RandomRows(t *testing.T) {
	good, kinds := 0, map[uint8]int{}
	const count = 30000
	r := rand.New(rand.NewSource(8))
	for range count {
		l, at := randomRow(r)
		f, own, wrong, e := slowly(l, at)
		answers(t, l, at, f, own, wrong, e)
		if e == api.OK {
			good++
			isWhole(t, f, own)
		}
		for _, x := range f {
			kinds[x.Kind]++
		}
	}
	if good < count/3 || good > count*5/6 {
		t.Error("good", good)
	}
	for k := api.FoInt; k <= api.FoCall; k++ {
		if kinds[k] < 1000 {
			t.Error("few of the kind", k, kinds)
		}
	}
}

// Small rows of any data are mostly bad, in all ways.
func TestP8_3_RandomData(t *testing.T) {
	r := rand.New(rand.NewSource(80))
	good := 0
	for range 60000 {
		m := maker{r: r, fault: 2}
		at := tops(m.any(3))
		f, own, wrong, e := slowly(m.l, at)
		answers(t, m.l, at, f, own, wrong, e)
		if e == api.OK {
			good++
			isWhole(t, f, own)
		}
	}
	if good < 10000 {
		t.Error("good", good)
	}
}

// isWhole tells whether forms are as P8.4 and P8.2 say: of ten kinds, each in one form or at the top level, right behind its parts, and a FoDef at the top level only.
func isWhole(t *testing.T, f []api.Form, own []int) {
	t.Helper()
	times := make([]int, len(f))
	start := make([]int, len(f))
	for i, x := range f {
		if x.Kind < api.FoInt || x.Kind > api.FoCall || x.A != 0 || x.W != 0 || x.Kind == api.FoDef && !slices.Contains(own, i) {
			t.Fatal(i, x)
		}
		start[i] = i
		for k := len(x.L) - 1; k >= 0; k-- {
			p := x.L[k]
			if p < 0 || p != start[i]-1 {
				t.Fatal(i, x, f)
			}
			start[i] = start[p]
			times[p]++
		}
	}
	next := 0
	for _, i := range own {
		if start[i] != next {
			t.Fatal(own, f)
		}
		next = i + 1
		times[i]++
	}
	if next != len(f) {
		t.Fatal(own, f)
	}
	for i, n := range times {
		if n != 1 {
			t.Fatal(i, n, f)
		}
	}
}

func TestP8_4_TheKinds(t *testing.T) {
	l, at := row(t, allShapes)
	f, own, _, e := expand.Expand(l, at)
	if e != api.OK {
		t.Fatal(e)
	}
	isWhole(t, f, own)
	seen := map[uint8]int{}
	for _, x := range f {
		seen[x.Kind]++
	}
	if len(seen) != 10 {
		t.Error(seen)
	}
}

package show_test

import (
	"math"
	"math/rand"
	"runtime/debug"
	"slices"
	"strconv"
	"strings"
	"testing"
	"unsafe"

	"eddywheel/api"
	"eddywheel/arena"
	"eddywheel/names"
	"eddywheel/read"
	"eddywheel/show"
)

// Written out, so that a limit that moves is seen.
const (
	mostShow  = 120
	mostCut   = 117
	mostDepth = 50
	mostWords = 1 << 16

	empty api.Word = 2
	no    api.Word = 10
	yes   api.Word = 18
	unit  api.Word = 26
)

// A datum is made as the document tells it.

func number(n int) api.Node { return api.Node{Kind: api.DatInt, N: n} }

func boolean(n int) api.Node { return api.Node{Kind: api.DatBool, N: n} }

func name(s string) api.Node { return api.Node{Kind: api.DatName, S: s} }

func list(l ...int) api.Node { return api.Node{Kind: api.DatList, L: l} }

func data(l ...api.Node) []api.Node { return l }

func same(a, b api.Node) bool {
	return a.At == b.At && sameButAt(a, b)
}

func sameButAt(a, b api.Node) bool {
	return a.Kind == b.Kind && a.N == b.N && a.S == b.S && slices.Equal(a.L, b.L)
}

func deepCopy(l []api.Node) []api.Node {
	l = slices.Clone(l)
	for i := range l {
		l[i].L = slices.Clone(l[i].L)
	}
	return l
}

// prints tells whether a datum is this text, however often one asks, and whether the row stays as it is.
func prints(t *testing.T, want string, l []api.Node, i int) {
	t.Helper()
	before := deepCopy(l)
	for range 2 {
		if s, e := show.Datum(l, i); s != want || e != api.OK {
			t.Fatalf("%v, %d: %q, %d, not %q", l, i, s, e, want)
		}
	}
	if !slices.EqualFunc(l, before, same) {
		t.Fatalf("%v, before %v", l, before)
	}
}

// last tells whether the last datum of a row is this text.
func last(t *testing.T, want string, l ...api.Node) {
	t.Helper()
	prints(t, want, l, len(l)-1)
}

func fails(t *testing.T, l []api.Node, i int) {
	t.Helper()
	for range 2 {
		if s, e := show.Datum(l, i); s != "" || e != api.ErrArg {
			t.Fatalf("%v, %d: %q, %d", l, i, s, e)
		}
	}
}

// printed is what a text has at the top, each printed on its own.
func printed(t *testing.T, s string) []string {
	t.Helper()
	l, tops, at, e := read.Read(s)
	if e != api.OK {
		t.Fatal(s, at, e)
	}
	var all []string
	for _, i := range tops {
		x, e := show.Datum(l, i)
		if e != api.OK {
			t.Fatal(s, i, e)
		}
		all = append(all, x)
	}
	return all
}

func TestP7_1_TheExample(t *testing.T) {
	if all := printed(t, "( a 'b  )"); !slices.Equal(all, []string{"(a 'b)"}) {
		t.Error(all)
	}
}

func TestP7_1_IndicesThatAreNone(t *testing.T) {
	far := []int{math.MinInt, math.MinInt + 1, -1 << 32, -1<<32 + 1, -256, -255, -2, -1, 256, 257, 1 << 32, 1<<32 + 1, math.MaxInt}
	rows := [][]api.Node{nil, {}, data(number(1)), data(name("a"), list(0)), data(name("quote"), number(1), list(0, 1))}
	for _, l := range rows {
		for _, i := range append(slices.Clone(far), len(l), len(l)+1, len(l)+2) {
			fails(t, l, i)
		}
		for i := range l {
			if _, e := show.Datum(l, i); e != api.OK {
				t.Error(l, i, e)
			}
		}
	}
	fails(t, nil, 0)
	fails(t, make([]api.Node, 0, 4), 0)
	fails(t, data(number(1), number(2))[:1], 1)
}

// A row that is not valid has no datum at all, whichever of its indices is asked for.
func TestP7_1_RowsThatAreNotValid(t *testing.T) {
	a, b := name("a"), number(2)
	for _, l := range [][]api.Node{
		{{}},
		{{Kind: 5}},
		{{Kind: 255}},
		{a, {Kind: 0, S: "a"}},
		{{Kind: api.DatInt, At: -1}},
		{a, {Kind: api.DatName, S: "b", At: math.MinInt}},
		{boolean(2)},
		{boolean(-1), a},
		{a, boolean(256)},
		{{Kind: api.DatInt, S: "a"}},
		{{Kind: api.DatBool, S: "a"}},
		{{Kind: api.DatName, S: "a", N: 1}},
		{{Kind: api.DatList, N: 1}},
		{{Kind: api.DatList, S: "a"}},
		{a, {Kind: api.DatInt, L: []int{0}}},
		{a, {Kind: api.DatBool, L: []int{0}}},
		{a, {Kind: api.DatName, S: "b", L: []int{0}}},
		{list(0)},
		{list(1), a},
		{a, list(1)},
		{a, list(2)},
		{a, list(-1)},
		{a, list(math.MinInt)},
		{a, list(math.MaxInt)},
		{a, list(0, 0)},
		{a, list(0), list(0)},
		{a, b, list(0, 1), list(2, 1)},
		{list(1), list(0)},
		{name("quote"), list(0, 1)},
		{name("quote"), list(0, 0)},
		{name("quote"), list(0, -1)},
		{name("quote"), list(-1, 0)},
		{name("quote"), a, list(0, 1), list(2, 2)},
	} {
		for i := -1; i <= len(l); i++ {
			fails(t, l, i)
		}
	}
}

// A fault far from the datum that is asked for is one, too.
func TestP7_1_OneBadDatumSpoilsTheRow(t *testing.T) {
	good, _, _, _ := read.Read("(a (12 #t ()) 'b) #f ''(x)")
	for i := range good {
		if _, e := show.Datum(good, i); e != api.OK {
			t.Error(i, e)
		}
		for _, bad := range []api.Node{{}, {Kind: 9}, {Kind: api.DatInt, At: -1}, boolean(3), list(i), list(len(good))} {
			l := slices.Clone(good)
			l[i] = bad
			for k := range l {
				fails(t, l, k)
			}
		}
	}
}

func TestP7_1_Numbers(t *testing.T) {
	for n, want := range map[int]string{
		0: "0", 1: "1", 9: "9", 10: "10", 12: "12", 100: "100", -1: "-1", -7: "-7", -10: "-10", -120: "-120",
		1<<40 - 1: "1099511627775", -1<<40 + 1: "-1099511627775", 1 << 40: "1099511627776", 1 << 62: "4611686018427387904",
		math.MaxInt: "9223372036854775807", math.MinInt: "-9223372036854775808",
	} {
		last(t, want, number(n))
		last(t, "("+want+")", number(n), list(0))
		last(t, "'"+want, name("quote"), number(n), list(0, 1))
	}
}

func TestP7_1_Booleans(t *testing.T) {
	last(t, "#t", boolean(1))
	last(t, "#f", boolean(0))
	last(t, "(#f #t)", boolean(0), boolean(1), list(0, 1))
	last(t, "'#f", name("quote"), boolean(0), list(0, 1))
}

// A name is printed as it is, whatever bytes it has and however many.
func TestP7_1_Names(t *testing.T) {
	for _, s := range []string{"a", "quote", "set!", "-", "x1", "", " ", "a b", "(", ")", "'", "'a", "#t", "12", "()", "\x00", "\xff\xfe", "é", "\n", `"a\"`, strings.Repeat("x", 32), strings.Repeat("y", 121), strings.Repeat("é", 5000)} {
		last(t, s, name(s))
		last(t, "("+s+")", name(s), list(0))
		last(t, "(1 "+s+" "+s+")", number(1), name(s), name(s), list(0, 1, 2))
		last(t, "'"+s, name("quote"), name(s), list(0, 1))
	}
}

func TestP7_1_Lists(t *testing.T) {
	last(t, "()", list())
	last(t, "()", api.Node{Kind: api.DatList, L: []int{}})
	last(t, "(a)", name("a"), list(0))
	last(t, "(a 2)", name("a"), number(2), list(0, 1))
	last(t, "(a 2 #t)", name("a"), number(2), boolean(1), list(0, 1, 2))
	last(t, "(a -2 #f b)", name("a"), number(-2), boolean(0), name("b"), list(0, 1, 2, 3))
	last(t, "(())", list(), list(0))
	last(t, "((()))", list(), list(0), list(1))
	last(t, "(() ())", list(), list(), list(0, 1))
	last(t, "(() () ())", list(), list(), list(), list(0, 1, 2))
	last(t, "((a) b (c (d)) e)", name("a"), list(0), name("b"), name("c"), name("d"), list(4), list(3, 5), name("e"), list(1, 2, 6, 7))
}

// The elements come in the order of L, which needs not be that of the row, and the row may have others.
func TestP7_1_TheOrderIsThatOfTheList(t *testing.T) {
	last(t, "(3 1 2)", number(1), number(2), number(3), list(2, 0, 1))
	last(t, "(2)", number(1), number(2), number(3), list(1))
	last(t, "((2 1) 3)", number(1), number(2), number(3), list(1, 0), list(3, 2))
	last(t, "(3 (2 1))", number(1), number(2), list(1, 0), number(3), list(3, 2))
	last(t, "'a", name("a"), name("quote"), list(1, 0))
	last(t, "(a quote)", name("quote"), name("a"), list(1, 0))
}

func TestP7_1_EachDatumOfARow(t *testing.T) {
	l := data(name("a"), name("quote"), name("b"), list(1, 2), list(0, 3), number(5), list(), list(4, 6))
	for i, want := range []string{"a", "quote", "b", "'b", "(a 'b)", "5", "()", "((a 'b) ())"} {
		prints(t, want, l, i)
	}
}

func TestP7_1_TheOffsetIsNotPrinted(t *testing.T) {
	for _, at := range []int{0, 1, 4000, math.MaxInt} {
		l := data(name("quote"), number(3), list(0, 1), boolean(1), list(2, 3))
		for i := range l {
			l[i].At = at
		}
		last(t, "('3 #t)", l...)
	}
}

func TestP7_1_AQuoteOfEachKind(t *testing.T) {
	q := name("quote")
	last(t, "'x", q, name("x"), list(0, 1))
	last(t, "'-5", q, number(-5), list(0, 1))
	last(t, "'#t", q, boolean(1), list(0, 1))
	last(t, "'()", q, list(), list(0, 1))
	last(t, "'(1)", q, number(1), list(1), list(0, 2))
	last(t, "'(1 2)", q, number(1), number(2), list(1, 2), list(0, 3))
	last(t, "'(1 2 3)", q, number(1), number(2), number(3), list(1, 2, 3), list(0, 4))
	last(t, "'quote", q, q, list(0, 1))
	last(t, "'(quote)", q, q, list(1), list(0, 2))
	last(t, "'(a quote)", q, name("a"), q, list(1, 2), list(0, 3))
}

func TestP7_1_ListsThatAreNoQuotes(t *testing.T) {
	q := name("quote")
	last(t, "quote", q)
	last(t, "(quote)", q, list(0))
	last(t, "(quote a b)", q, name("a"), name("b"), list(0, 1, 2))
	last(t, "(quote quote quote)", q, q, q, list(0, 1, 2))
	last(t, "(quote a b c)", q, name("a"), name("b"), name("c"), list(0, 1, 2, 3))
	last(t, "(a quote)", name("a"), q, list(0, 1))
	last(t, "((quote) x)", q, list(0), name("x"), list(1, 2))
	last(t, "('a x)", q, name("a"), list(0, 1), name("x"), list(2, 3))
	last(t, "(() x)", list(), name("x"), list(0, 1))
	last(t, "(0 x)", number(0), name("x"), list(0, 1))
	last(t, "(#t x)", boolean(1), name("x"), list(0, 1))
	for _, s := range []string{"", "Quote", "QUOTE", "quot", "quotes", "uote", " quote", "quote ", "'", "quasiquote", "quote\x00", "if"} {
		last(t, "("+s+" x)", name(s), name("x"), list(0, 1))
	}
}

func TestP7_1_QuotesOfQuotes(t *testing.T) {
	for _, s := range []string{"''a", "'''a", "''()", "'('a)", "('a)", "('a 'b)", "''('a ''b)", "('a b)", "(a 'b)", "(a 'b c)", "'(quote)", "''(quote a b)", "(''a)", "('(a) ('b))", strings.Repeat("'", mostDepth) + "a", strings.Repeat("('", mostDepth/2) + "a" + strings.Repeat(")", mostDepth/2), strings.Repeat("'(", mostDepth/2) + strings.Repeat(")", mostDepth/2)} {
		if all := printed(t, s); !slices.Equal(all, []string{s}) {
			t.Error(s, all)
		}
	}
	for s, want := range map[string]string{
		"(quote a)":                   "'a",
		"(quote (quote a))":           "''a",
		"(quote 'a)":                  "''a",
		"'(quote a)":                  "''a",
		"(quote quote)":               "'quote",
		"(quote (quote))":             "'(quote)",
		"((quote a) (quote b c))":     "('a (quote b c))",
		"(quote (a (quote b) quote))": "'(a 'b quote)",
		"(quote (quote quote))":       "''quote",
		"('quote a)":                  "('quote a)",
		"(quote\n; b\na )":            "'a",
	} {
		if all := printed(t, s); !slices.Equal(all, []string{want}) {
			t.Error(s, all, want)
		}
	}
}

// A datum is never cut, however long; and the calls are not as deep as the data, which may be deeper than a stack has room.
func TestP7_1_LongData(t *testing.T) {
	const count = 200000
	old := debug.SetMaxStack(8 << 20)
	defer debug.SetMaxStack(old)
	lists, quotes := data(list()), data(name("x"))
	for i := range count {
		lists = append(lists, list(i))
		quotes = append(quotes, name("quote"), list(2*i+1, 2*i))
	}
	mixed, back := data(list(), number(1), list(0, 1)), "(() 1)"
	for i := 2; len(mixed) < count; i += 3 {
		mixed = append(mixed, name("quote"), list(i+1, i), list(i+2))
	}
	turns := (len(mixed) - 3) / 3
	var flat []api.Node
	for i := range count {
		flat = append(flat, number(i%10))
	}
	all := make([]int, count)
	for i := range all {
		all[i] = i
	}
	flat = append(flat, list(all...))
	for i, x := range []struct {
		l    []api.Node
		want string
	}{
		{lists, strings.Repeat("(", count+1) + strings.Repeat(")", count+1)},
		{quotes, strings.Repeat("'", count) + "x"},
		{mixed, strings.Repeat("('", turns) + back + strings.Repeat(")", turns)},
		{flat, "(" + strings.Repeat("0 1 2 3 4 5 6 7 8 9 ", count/10-1) + "0 1 2 3 4 5 6 7 8 9)"},
	} {
		if s, e := show.Datum(x.l, len(x.l)-1); s != x.want || e != api.OK {
			t.Error(i, len(s), len(x.want), e)
		}
	}
}

// Printed data may have more bytes than the text that they were read from, and than one that may be read.
func TestP7_1_LongerThanTheText(t *testing.T) {
	const count, mostText = 1999, 4000
	s := "(" + strings.Repeat("()", count) + ")"
	want := "(" + strings.Repeat("() ", count-1) + "())"
	if all := printed(t, s); len(s) != mostText || !slices.Equal(all, []string{want}) {
		t.Error(len(s), len(want), all)
	}
}

func TestP7_1_TheResultIsNewMemory(t *testing.T) {
	text := []byte("some name")
	l := data(name(unsafe.String(&text[0], len(text))), name("quote"), list(1, 0))
	s, _ := show.Datum(l, 0)
	q, _ := show.Datum(l, 2)
	again, _ := show.Datum(l, 0)
	copy(text, "#########")
	if s != "some name" || q != "'some name" || again != s {
		t.Error(s, q, again)
	}
	if unsafe.StringData(s) == unsafe.StringData(again) {
		t.Error("shared")
	}
}

// What lies beyond the length of a slice is not read.
func TestP7_1_BeyondTheLength(t *testing.T) {
	places := []int{1, 0, 0, 9}
	row := []api.Node{name("a"), name("quote"), list(), {}, {Kind: 99, At: -1}}
	row[2].L = places[:1]
	prints(t, "(quote)", row[:3], 2)
	row[2].L = places[:2]
	prints(t, "'a", row[:3], 2)
	if !slices.Equal(places, []int{1, 0, 0, 9}) || row[4].At != -1 {
		t.Error(places, row)
	}
}

// slowDatum is a second way: each datum is the text of its elements.
func slowDatum(l []api.Node, i int) string {
	x := l[i]
	switch {
	case x.Kind == 1:
		return strconv.FormatInt(int64(x.N), 10)
	case x.Kind == 2:
		return []string{"#f", "#t"}[x.N]
	case x.Kind == 3:
		return x.S
	}
	var all []string
	for _, k := range x.L {
		all = append(all, slowDatum(l, k))
	}
	if len(all) == 2 && l[x.L[0]].Kind == 3 && all[0] == "quote" {
		return "'" + all[1]
	}
	return "(" + strings.Join(all, " ") + ")"
}

// randomRow is a valid row: each list takes some data that are in none yet.
func randomRow(r *rand.Rand) []api.Node {
	var l []api.Node
	var free []int
	for i := range 1 + r.Intn(20) {
		x := api.Node{At: r.Intn(99)}
		switch x.Kind = uint8(1 + r.Intn(4)); x.Kind {
		case api.DatInt:
			x.N = r.Intn(300) - 150
		case api.DatBool:
			x.N = r.Intn(2)
		case api.DatName:
			x.S = []string{"quote", "quote", "quote", "a", ""}[r.Intn(5)]
		case api.DatList:
			for range min(len(free), r.Intn(5)) {
				k := r.Intn(len(free))
				x.L = append(x.L, free[k])
				free = slices.Delete(free, k, k+1)
			}
		}
		l, free = append(l, x), append(free, i)
	}
	return l
}

func TestP7_1_RandomRows(t *testing.T) {
	r := rand.New(rand.NewSource(7))
	quotes := 0
	for range 20000 {
		l := randomRow(r)
		for i := range l {
			want := slowDatum(l, i)
			prints(t, want, l, i)
			quotes += strings.Count(want, "'")
		}
		fails(t, l, len(l))
		fails(t, l, -1)
	}
	if quotes < 2000 {
		t.Error("few quotes", quotes)
	}
}

// A word is encoded by the document's words, not by package word.

func integer(n int) api.Word { return api.Word(uint64(n) * 8) }

func at(n int) api.Word { return api.Word(n)*8 + 1 }

func nameWord(n int) api.Word { return api.Word(n)*8 + 3 }

func hand(n int) api.Word { return api.Word(n)*8 + 4 }

// world is an arena and a table, of which words are made.
type world struct {
	t *testing.T
	a *arena.Arena
	n *names.Names
}

func newWorld(t *testing.T) world {
	a, e := arena.New(mostWords)
	if e != api.OK {
		t.Fatal(e)
	}
	return world{t, a, names.New()}
}

func (w world) obj(kind int, fields ...api.Word) api.Word {
	w.t.Helper()
	x, e := w.a.Alloc(kind, fields...)
	if e != api.OK {
		w.t.Fatal(e)
	}
	return x
}

func (w world) pair(x, y api.Word) api.Word { return w.obj(1, x, y) }

func (w world) set(x api.Word, i int, y api.Word) {
	if e := w.a.Set(x, i, y); e != api.OK {
		w.t.Fatal(e)
	}
}

// list is a row of Pairs, and what its last second field is.
func (w world) list(end api.Word, l ...api.Word) api.Word {
	for _, x := range slices.Backward(l) {
		end = w.pair(x, end)
	}
	return end
}

func (w world) name(s string) api.Word {
	w.t.Helper()
	i, e := w.n.Put(s)
	if e != api.OK {
		w.t.Fatal(s, e)
	}
	return nameWord(i)
}

// is tells whether a word is this text, however often one asks.
func (w world) is(want string, x api.Word) {
	w.t.Helper()
	used, count := w.a.Used(), w.n.Len()
	for range 2 {
		if s := show.Word(w.a, w.n, x); s != want {
			w.t.Fatalf("%d: %q, not %q", uint64(x), s, want)
		}
	}
	if w.a.Used() != used || w.n.Len() != count {
		w.t.Fatal("changed", used, w.a.Used(), count, w.n.Len())
	}
}

// cut is what is told of a whole text.
func cut(whole string) string {
	if len(whole) <= mostShow {
		return whole
	}
	return whole[:mostCut] + "..."
}

// isCut tells whether a word is this text, or its beginning if it is too long.
func (w world) isCut(whole string, x api.Word) {
	w.t.Helper()
	w.is(cut(whole), x)
}

func TestP7_2_TheExample(t *testing.T) {
	w := newWorld(t)
	w.is("(1 . 2)", w.pair(integer(1), integer(2)))
}

func TestP7_2_Marks(t *testing.T) {
	w := newWorld(t)
	w.is("()", empty)
	w.is("#t", yes)
	w.is("#f", no)
	w.is("#u", unit)
	if empty != api.Nil || yes != api.True || no != api.False || unit != api.Unit {
		t.Error("the marks of the tests are others")
	}
}

func TestP7_2_Numbers(t *testing.T) {
	w := newWorld(t)
	for n, want := range map[int]string{0: "0", 1: "1", 7: "7", 10: "10", 300: "300", -1: "-1", -2: "-2", -10: "-10", 1<<40 - 1: "1099511627775", -1<<40 + 1: "-1099511627775"} {
		w.is(want, integer(n))
		w.is("("+want+")", w.list(empty, integer(n)))
		w.is("("+want+" . "+want+")", w.pair(integer(n), integer(n)))
	}
}

func TestP7_2_Names(t *testing.T) {
	w := newWorld(t)
	w.is("#n0", nameWord(0))
	for i, s := range []string{"car", "x", "quote", "set!", "-", "#t", "12", "(", ")", ".", " ", "\x00", "\xff", "é", "...", strings.Repeat("z", 32)} {
		w.is("#n"+strconv.Itoa(i), nameWord(i))
		x := w.name(s)
		w.is(s, x)
		w.is("("+s+")", w.list(empty, x))
		w.is("(1 . "+s+")", w.pair(integer(1), x))
		w.is("#n"+strconv.Itoa(i+1), nameWord(i+1))
		w.is("car", nameWord(0))
	}
	w.is("(#n16 #n17 . #n18)", w.list(nameWord(18), nameWord(16), nameWord(17)))
	for _, n := range []int{255, 256, 1 << 12, 1 << 32, 1<<32 + 1, 1<<40 - 1} {
		w.is("#n"+strconv.Itoa(n), nameWord(n))
	}
}

func TestP7_2_Handles(t *testing.T) {
	w := newWorld(t)
	w.name("a")
	w.pair(empty, empty)
	for _, n := range []int{0, 1, 3, 10, 255, 256, 1 << 16, 1 << 32, 1<<40 - 1} {
		want := "#h" + strconv.Itoa(n)
		w.is(want, hand(n))
		w.is("("+want+")", w.list(empty, hand(n)))
		w.is("(#t . "+want+")", w.pair(yes, hand(n)))
	}
}

func TestP7_2_OtherKindsOfObjects(t *testing.T) {
	w := newWorld(t)
	fields := make([]api.Word, 255)
	for kind := 1; kind <= 9; kind++ {
		for _, count := range []int{0, 1, 2, 3, 4, 255} {
			if kind == 1 && count == 2 {
				continue
			}
			want := "#" + strconv.Itoa(kind)
			x := w.obj(kind, fields[:count]...)
			w.is(want, x)
			w.is("("+want+")", w.list(empty, x))
			w.is("(5 . "+want+")", w.pair(integer(5), x))
			w.is("(("+want+" . "+want+") "+want+" . "+want+")", w.list(x, w.pair(x, x), x))
		}
	}
}

// What is in an object that is no Pair is not looked at.
func TestP7_2_OtherObjectsAreNotGoneInto(t *testing.T) {
	w := newWorld(t)
	p := w.pair(integer(1), empty)
	for kind := 2; kind <= 9; kind++ {
		x := w.obj(kind, p, p)
		w.set(x, 1, x)
		w.is("#"+strconv.Itoa(kind), x)
		w.is("(7 . #"+strconv.Itoa(kind)+")", w.pair(integer(7), x))
	}
	w.is("#1", w.obj(1, p, p, p))
	w.is("(#t . #1)", w.pair(yes, w.obj(1, p)))
}

// An object, a Pair too, may stand at the address 0.
func TestP7_2_TheFirstAddress(t *testing.T) {
	w := newWorld(t)
	if w.pair(integer(4), empty) != at(0) {
		t.Fatal("not the first")
	}
	w.is("(4)", at(0))
	w = newWorld(t)
	w.obj(7)
	w.is("#7", at(0))
}

func TestP7_2_WordsThatAreNone(t *testing.T) {
	bad := []api.Word{
		at(mostWords - 1), at(mostWords), at(1 << 32), at(1<<32 + 3), at(1<<40 - 1), at(1 << 40), at(1<<40 + 3), at(1 << 60), at(1<<60 + 3),
		integer(1 << 40), integer(1<<40 + 1), integer(-1 << 40), integer(-1<<40 - 1), integer(1 << 59), integer(-1 << 60),
		nameWord(1 << 40), nameWord(1<<40 + 1), nameWord(1 << 60), hand(1 << 40), hand(1<<40 + 1), hand(1 << 60),
		4<<3 | 2, 5<<3 | 2, 256<<3 | 2, 1<<40<<3 | 2, 1<<60<<3 | 2, math.MaxUint64, math.MaxUint64 - 5,
	}
	for kind := api.Word(5); kind < 8; kind++ {
		for _, n := range []api.Word{0, 1, 3, 1 << 39, 1 << 60} {
			bad = append(bad, n<<3|kind)
		}
	}
	w := newWorld(t)
	w.name("a")
	p := w.pair(integer(1), empty)
	f := w.obj(3, p, p, p)
	for _, x := range bad {
		w.is("#?", x)
		w.is("(#?)", w.list(empty, x))
		w.is("(#? #? . #?)", w.list(x, x, x))
	}
	w.is("(1)", p)
	w.is("#3", f)
}

// An address within an object, or behind the last one, is that of none.
func TestP7_2_AddressesOfNothing(t *testing.T) {
	w := newWorld(t)
	p := w.list(at(4), at(1), at(2))
	w.obj(3, p, p, p)
	for _, n := range []int{1, 2, 4, 5, 7, 8, 9, 10, 11, 12, mostWords - 1} {
		w.is("#?", at(n))
	}
	w.is("(#? . #?)", at(0))
	w.is("(#? #? . #?)", at(3))
	w.is("#3", at(6))
	w.obj(4)
	w.is("#4", at(10))
	w.is("#?", at(11))
}

func TestP7_2_NoArenaAndNoTable(t *testing.T) {
	some := newWorld(t)
	a := some.name("a")
	p := some.pair(a, some.pair(integer(1), empty))
	if p != at(3) {
		t.Fatal(uint64(p))
	}
	for _, x := range []struct {
		w                   api.Word
		both, none, noTable string
	}{
		{empty, "()", "()", "()"}, {yes, "#t", "#t", "#t"}, {no, "#f", "#f", "#f"}, {unit, "#u", "#u", "#u"},
		{integer(-3), "-3", "-3", "-3"}, {hand(2), "#h2", "#h2", "#h2"}, {5, "#?", "#?", "#?"},
		{a, "a", "#n0", "#n0"}, {nameWord(1), "#n1", "#n1", "#n1"}, {nameWord(1 << 40), "#?", "#?", "#?"},
		{p, "(a 1)", "#?", "(#n0 1)"}, {at(0), "(1)", "#?", "(1)"}, {at(1), "#?", "#?", "#?"},
	} {
		world{t, some.a, some.n}.is(x.both, x.w)
		world{t, some.a, nil}.is(x.noTable, x.w)
		world{t, some.a, &names.Names{}}.is(x.noTable, x.w)
		world{t, nil, nil}.is(x.none, x.w)
		world{t, &arena.Arena{}, names.New()}.is(x.none, x.w)
		if s := show.Word(nil, some.n, a); s != "a" {
			t.Error(s)
		}
	}
}

func TestP7_2_TooLongWithoutATable(t *testing.T) {
	some := newWorld(t)
	p := some.pair(nameWord(7), empty)
	some.set(p, 1, p)
	_, x := some.text(200)
	for _, n := range []*names.Names{nil, {}, names.New()} {
		w := world{t, some.a, n}
		w.is(("(" + strings.Repeat("#n7 ", 40))[:117]+"...", p)
		w.is("(#n0 #n1 #n2 #n3 #n4 #n5 #n6 #n7 #n8 #n9)", x)
	}
}

func TestP7_2_Pairs(t *testing.T) {
	w := newWorld(t)
	one, two, three := integer(1), integer(2), integer(3)
	w.is("(1)", w.pair(one, empty))
	w.is("(1 2)", w.list(empty, one, two))
	w.is("(1 2 3)", w.list(empty, one, two, three))
	w.is("(1 2 . 3)", w.list(three, one, two))
	w.is("(1 2 3 . 3)", w.list(three, one, two, three))
	w.is("(())", w.pair(empty, empty))
	w.is("(() . 1)", w.pair(empty, one))
	w.is("(() ())", w.list(empty, empty, empty))
	w.is("((1))", w.pair(w.pair(one, empty), empty))
	w.is("((1 . 2))", w.pair(w.pair(one, two), empty))
	w.is("((1 . 2) . 3)", w.pair(w.pair(one, two), three))
	w.is("((1) 2)", w.list(empty, w.pair(one, empty), two))
	w.is("((1) (2 3) (() . 2))", w.list(empty, w.pair(one, empty), w.list(empty, two, three), w.pair(empty, two)))
	w.is("(((1 . 2) 3 . #t) #f . #u)", w.list(unit, w.list(yes, w.pair(one, two), three), no))
	w.is("(#t . #f)", w.pair(yes, no))
	w.is("(#u . #u)", w.pair(unit, unit))
	w.is("(1 . #t)", w.pair(one, yes))
	w.is("(1 . 0)", w.pair(one, 0))
	w.is("(1 . #?)", w.pair(one, at(1)))
	w.is("(#h1 . #n4)", w.pair(hand(1), nameWord(4)))
}

// Nothing but Nil ends a row without a dot.
func TestP7_2_WhatARowEndsWith(t *testing.T) {
	w := newWorld(t)
	a := w.name("a")
	for x, want := range map[api.Word]string{
		empty: "", no: " . #f", yes: " . #t", unit: " . #u", 0: " . 0", integer(-1): " . -1", a: " . a", hand(0): " . #h0",
		w.obj(2): " . #2", w.obj(1): " . #1", w.obj(1, 0, 0, 0): " . #1", 7: " . #?", at(mostWords - 1): " . #?", 4<<3 | 2: " . #?",
	} {
		w.is("(5"+want+")", w.pair(integer(5), x))
		w.is("(5 6"+want+")", w.list(x, integer(5), integer(6)))
		w.is("((5"+want+") ())", w.list(empty, w.pair(integer(5), x), empty))
	}
}

// Words know no mark for a quote: it is a name as any other.
func TestP7_2_AQuoteIsAListAsAnyOther(t *testing.T) {
	w := newWorld(t)
	q, x := w.name("quote"), w.name("x")
	w.is("(quote x)", w.list(empty, q, x))
	w.is("(quote)", w.list(empty, q))
	w.is("(quote . x)", w.pair(q, x))
	w.is("(a quote)", w.list(empty, w.name("a"), q))
	w.is("(quote (quote x))", w.list(empty, q, w.list(empty, q, x)))
}

// A thing that is in two places is printed in both.
func TestP7_2_SharedPairs(t *testing.T) {
	w := newWorld(t)
	p := w.list(empty, integer(1), integer(2))
	w.is("((1 2) 1 2)", w.pair(p, p))
	w.is("((1 2) (1 2) (1 2))", w.list(empty, p, p, p))
	x := empty
	for range 30 {
		x = w.pair(x, x)
		w.isCut(slowWord(w.a, w.n, x), x)
	}
}

// text makes a list of names that is printed as a text of so many bytes, and answers the text, too.
func (w world) text(size int) (string, api.Word) {
	var l []api.Word
	var all []string
	for rest := size - 2; rest > 0; {
		count := min(rest, 20)
		if rest-count == 1 {
			count--
		}
		s := strings.Repeat(string(rune('a'+len(l))), count)
		l, all = append(l, w.name(s)), append(all, s)
		rest -= count + 1
	}
	return "(" + strings.Join(all, " ") + ")", w.list(empty, l...)
}

func TestP7_2_TextsOfEachLength(t *testing.T) {
	for size := 2; size < 400; size++ {
		w := newWorld(t)
		s, x := w.text(size)
		if len(s) != size {
			t.Fatal(size, s)
		}
		w.isCut(s, x)
	}
}

func TestP7_2_JustLongEnough(t *testing.T) {
	w := newWorld(t)
	for _, size := range []int{118, 119, 120} {
		s, x := w.text(size)
		w.is(s, x)
	}
	for _, size := range []int{121, 122, 123, 130, 200} {
		s, x := w.text(size)
		w.is(s[:117]+"...", x)
	}
}

// The text may become too long by any of its parts.
func TestP7_2_TooLongByEachPart(t *testing.T) {
	for depth := range 130 {
		w := newWorld(t)
		in, numbers, dotted := empty, integer(7), w.pair(yes, no)
		for range depth {
			in, numbers, dotted = w.pair(in, empty), w.pair(numbers, empty), w.pair(dotted, empty)
		}
		opens, closes := strings.Repeat("(", depth), strings.Repeat(")", depth)
		w.isCut(opens+"()"+closes, in)
		w.isCut(opens+"7"+closes, numbers)
		w.isCut(opens+"(#t . #f)"+closes, dotted)
	}
	for size := 90; size < 125; size++ {
		w := newWorld(t)
		s, x := w.text(size)
		front := s[1 : len(s)-1]
		w.isCut("("+s+" . 12345)", w.pair(x, integer(12345)))
		w.isCut("("+s+" -678)", w.list(empty, x, integer(-678)))
		w.isCut("("+s+" "+front+")", w.pair(x, x))
		w.isCut("("+s+" #t #f #u () #h12 #n4000 #?)", w.list(empty, x, yes, no, unit, empty, hand(12), nameWord(4000), 5))
		w.isCut("("+s+" . #9)", w.pair(x, w.obj(9)))
		w.isCut("("+s+" . "+strings.Repeat("k", 32)+")", w.pair(x, w.name(strings.Repeat("k", 32))))
	}
}

// The bytes are counted, not the letters, and a letter may be cut.
func TestP7_2_BytesAreCounted(t *testing.T) {
	w := newWorld(t)
	e := w.name(strings.Repeat("é", 16))
	w.is("("+strings.Repeat("é", 16)+" "+strings.Repeat("é", 16)+" "+strings.Repeat("é", 16)+")", w.list(empty, e, e, e))
	whole := "(" + strings.Repeat(strings.Repeat("é", 16)+" ", 5) + "1)"
	for _, front := range []string{"", "a", "ab", "abc"} {
		l := []api.Word{e, e, e, e, e, integer(1)}
		s := whole
		if front != "" {
			l, s = slices.Insert(l, 0, w.name(front)), "("+front+" "+whole[1:]
		}
		w.is(s[:117]+"...", w.list(empty, l...))
	}
	zeros := w.name(strings.Repeat("\x00", 32))
	w.is(("(" + strings.Repeat(strings.Repeat("\x00", 32)+" ", 5))[:117]+"...", w.list(empty, zeros, zeros, zeros, zeros, zeros))
}

func TestP7_2_RowsThatGoRoundByTheSecondField(t *testing.T) {
	w := newWorld(t)
	x := w.pair(integer(1), empty)
	w.set(x, 1, x)
	w.is("("+strings.Repeat("1 ", 58)+"...", x)
	w.is("(()"+strings.Repeat(" 1", 57)+"...", w.pair(empty, x))
	y, z := w.pair(integer(23), empty), w.pair(integer(4), empty)
	w.set(y, 1, z)
	w.set(z, 1, y)
	w.is(("(" + strings.Repeat("23 4 ", 40))[:117]+"...", y)
	w.is(("(" + strings.Repeat("4 23 ", 40))[:117]+"...", z)
	w.is(("((1) " + strings.Repeat("4 23 ", 40))[:117]+"...", w.pair(w.pair(integer(1), empty), z))
}

func TestP7_2_RowsThatGoRoundByTheFirstField(t *testing.T) {
	w := newWorld(t)
	x := w.pair(empty, empty)
	w.set(x, 0, x)
	w.is(strings.Repeat("(", 117)+"...", x)
	w.is(strings.Repeat("(", 117)+"...", w.pair(x, empty))
	w.is("(1 "+strings.Repeat("(", 114)+"...", w.list(empty, integer(1), x))
	y := w.pair(empty, integer(5))
	z := w.list(empty, integer(6), y)
	w.set(y, 0, z)
	w.is(strings.Repeat("((6 ", 40)[:117]+"...", y)
	w.is(strings.Repeat("(6 (", 40)[:117]+"...", z)
}

func TestP7_2_RowsThatGoRoundByBothFields(t *testing.T) {
	w := newWorld(t)
	x := w.pair(empty, empty)
	w.set(x, 0, x)
	w.set(x, 1, x)
	w.is(strings.Repeat("(", 117)+"...", x)
	y := w.pair(no, empty)
	w.set(y, 1, w.pair(y, y))
	w.is(strings.Repeat("(#f ", 40)[:117]+"...", y)
}

// What goes round through other objects ends: these are not gone into.
func TestP7_2_RoundThroughOtherObjects(t *testing.T) {
	w := newWorld(t)
	f := w.obj(2, empty, empty)
	p := w.list(empty, f, integer(1))
	w.set(f, 1, p)
	w.is("(#2 1)", p)
	odd := w.obj(1, empty, empty, empty)
	q := w.pair(odd, odd)
	w.set(odd, 0, q)
	w.is("(#1 . #1)", q)
}

// A whole arena of Pairs is too long, but neither too deep nor endless.
func TestP7_2_BigThings(t *testing.T) {
	w := newWorld(t)
	deep, long := empty, empty
	for range mostWords / 6 {
		deep, long = w.pair(deep, empty), w.pair(integer(10), long)
	}
	w.is(strings.Repeat("(", 117)+"...", deep)
	w.is("("+strings.Repeat("10 ", 38)+"10...", long)
}

// The word depends on what is in the arena and in the table now.
func TestP7_2_WhatChangesIsPrintedAsItIs(t *testing.T) {
	w := newWorld(t)
	p := w.list(empty, nameWord(0), integer(2))
	w.is("(#n0 2)", p)
	w.name("first")
	w.is("(first 2)", p)
	w.set(p, 1, p)
	w.is(("(" + strings.Repeat("first ", 30))[:117]+"...", p)
	w.set(p, 1, yes)
	w.is("(first . #t)", p)
	w.is("#?", at(mostWords-1))
}

func TestP7_2_TheResultIsNewMemory(t *testing.T) {
	w := newWorld(t)
	x := w.name("some name")
	s, again := show.Word(w.a, w.n, x), show.Word(w.a, w.n, x)
	text, _ := w.n.Text(0)
	if s != "some name" || s != again || text != s {
		t.Fatal(s, again, text)
	}
	if unsafe.StringData(s) == unsafe.StringData(again) || unsafe.StringData(s) == unsafe.StringData(text) {
		t.Error("shared")
	}
}

// todo is a piece of text, a word, or what comes behind a word in a row.
type todo struct {
	text string
	word api.Word
	kind int
}

const (
	asText = iota
	asWord
	asRest
)

// slowWord is a second way: what is still to be printed is one stack, and all is printed up to 200 bytes.
func slowWord(a *arena.Arena, n *names.Names, w api.Word) string {
	s, stack := "", []todo{{word: w, kind: asWord}}
	for len(stack) > 0 && len(s) < 200 {
		x := stack[len(stack)-1]
		stack = stack[:len(stack)-1]
		pair := a.Kind(x.word) == 1 && a.Len(x.word) == 2
		car, _ := a.Get(x.word, 0)
		cdr, _ := a.Get(x.word, 1)
		switch {
		case x.kind == asText:
			s += x.text
		case x.kind == asWord && pair:
			s += "("
			stack = append(stack, todo{word: cdr, kind: asRest}, todo{word: car, kind: asWord})
		case x.kind == asWord:
			s += slowSingle(a, n, x.word)
		case pair:
			s += " "
			stack = append(stack, todo{word: cdr, kind: asRest}, todo{word: car, kind: asWord})
		case x.word == empty:
			s += ")"
		default:
			s += " . "
			stack = append(stack, todo{text: ")"}, todo{word: x.word, kind: asWord})
		}
	}
	return s
}

func slowSingle(a *arena.Arena, n *names.Names, w api.Word) string {
	payload, valid := int(w/8), w/8 < 1<<40
	text, ok := n.Text(payload)
	signed := int(int64(w)) / 8
	switch {
	case w == 2 || w == 10 || w == 18 || w == 26:
		return map[api.Word]string{2: "()", 10: "#f", 18: "#t", 26: "#u"}[w]
	case w%8 == 0 && signed > -1<<40 && signed < 1<<40:
		return strconv.FormatInt(int64(signed), 10)
	case w%8 == 3 && valid && ok:
		return text
	case w%8 == 3 && valid:
		return "#n" + strconv.Itoa(payload)
	case w%8 == 4 && valid:
		return "#h" + strconv.Itoa(payload)
	case a.Kind(w) > 0:
		return "#" + strconv.Itoa(a.Kind(w))
	}
	return "#?"
}

func (w world) random(r *rand.Rand) api.Word {
	switch r.Intn(12) {
	case 0:
		return []api.Word{empty, no, yes, unit}[r.Intn(4)]
	case 1:
		return integer(r.Intn(2000) - 1000)
	case 2:
		return integer((r.Intn(3) - 1) * (1<<40 - r.Intn(2)))
	case 3:
		return nameWord(r.Intn(6))
	case 4:
		return hand(r.Intn(12))
	case 5:
		return at(r.Intn(w.a.Used() + 3))
	case 6:
		return []api.Word{5, 6, 7, 34, api.Word(r.Uint64())}[r.Intn(5)]
	}
	return empty
}

// Random things, some of which go round, are held against the second way.
func TestP7_2_RandomThings(t *testing.T) {
	r := rand.New(rand.NewSource(72))
	long, exact := 0, 0
	for range 4000 {
		w := newWorld(t)
		w.a, _ = arena.New(2000)
		for _, s := range []string{"a", "quote", "a-name", strings.Repeat("n", 32)} {
			w.name(s)
		}
		var all []api.Word
		some := func() api.Word {
			if len(all) > 0 && r.Intn(3) > 0 {
				return all[len(all)-1-r.Intn(min(len(all), 6))]
			}
			return w.random(r)
		}
		for range r.Intn(60) {
			if r.Intn(8) > 0 {
				all = append(all, w.pair(some(), some()))
			} else {
				all = append(all, w.obj(1+r.Intn(9), some(), some(), some()))
			}
		}
		for range r.Intn(3) {
			if len(all) > 0 {
				w.set(all[r.Intn(len(all))], r.Intn(2), some())
			}
		}
		all = append(all, w.random(r))
		for _, x := range all {
			whole := slowWord(w.a, w.n, x)
			w.isCut(whole, x)
			if len(whole) > mostShow {
				long++
			} else if len(whole) > 100 {
				exact++
			}
		}
	}
	if long < 2000 || exact < 200 {
		t.Error("few of the things were long", long, exact)
	}
}

// again tells whether the data of a text, printed and read again, are the same but for the offsets.
func again(t *testing.T, s string) {
	t.Helper()
	l, tops, _, e := read.Read(s)
	if e != api.OK {
		t.Fatal(s, e)
	}
	for _, i := range tops {
		text, e := show.Datum(l, i)
		if e != api.OK {
			t.Fatal(s, i, e)
		}
		l2, tops2, at, e := read.Read(text)
		if e != api.OK || len(tops2) != 1 || !alike(l, i, l2, tops2[0]) {
			t.Fatalf("%q, %q: %d, %d, %v", s, text, at, e, l2)
		}
		if s, e := show.Datum(l2, tops2[0]); s != text || e != api.OK {
			t.Fatalf("%q, not %q", s, text)
		}
	}
	allAgain(t, s, l, tops)
}

// allAgain is that of all the data at once: the whole rows are the same then, too.
func allAgain(t *testing.T, s string, l []api.Node, tops []int) {
	t.Helper()
	text := strings.Join(printed(t, s), "\n")
	l2, tops2, at, e := read.Read(text)
	if e != api.OK || !slices.Equal(tops, tops2) || !slices.EqualFunc(l, l2, sameButAt) {
		t.Fatalf("%q, %q: %d, %d, %v, not %v", s, text, at, e, l2, l)
	}
}

// alike tells whether two data are the same, wherever they and their elements stand.
func alike(l []api.Node, i int, m []api.Node, k int) bool {
	x, y := l[i], m[k]
	if x.Kind != y.Kind || x.N != y.N || x.S != y.S || len(x.L) != len(y.L) {
		return false
	}
	for j := range x.L {
		if !alike(l, x.L[j], m, y.L[j]) {
			return false
		}
	}
	return true
}

func TestP7_3_PrintedAndReadAgain(t *testing.T) {
	for _, s := range []string{
		"", "a", "12", "-12", "-0", "007", "-", "--1", "1a", "#t", "#f", "#t#f", "()", "(())", "(()())", "(a)", "(a b)", "( a 'b  )",
		"1099511627775 -999999999999", "'a", "''a", "'()", "(quote a)", "(quote)", "(quote a b)", "(quote quote)", "'quote", "'(quote)",
		"(quote (quote a))", "((quote) quote)", "('quote a)", "(a'b'c)", "(#t#f'#t)", "(a;)\n)", "(1(2(3)4)5)", "a (b) c",
		"(define (f n) (if (< n 2) 1 (* n (f (- n 1)))))", strings.Repeat("x", 32) + " " + strings.Repeat("9", 12),
		strings.Repeat("(", mostDepth) + strings.Repeat(")", mostDepth), strings.Repeat("'", mostDepth) + "a",
		strings.Repeat("(quote ", mostDepth) + "a" + strings.Repeat(")", mostDepth), strings.Repeat("'(", mostDepth/2) + strings.Repeat(")", mostDepth/2),
	} {
		again(t, s)
	}
}

// randomText is one of a datum of so many lists within lists at most.
func randomText(r *rand.Rand, depth int) string {
	gap := func() string { return []string{" ", "\n", "\t", "  ", " ; (')\n "}[r.Intn(5)] }
	switch kind := r.Intn(9); {
	case depth > 0 && kind < 3:
		s := "(" + []string{"", "", "quote "}[r.Intn(3)]
		for range r.Intn(4) {
			s += randomText(r, depth-1) + gap()
		}
		return s + ")"
	case depth > 0 && kind < 5:
		return "'" + []string{"", gap()}[r.Intn(2)] + randomText(r, depth-1)
	case kind < 6:
		return strconv.Itoa(r.Intn(2001) - 1000)
	case kind < 7:
		return []string{"#f", "#t"}[r.Intn(2)]
	}
	return []string{"a", "quote", "set!", "-", "x1"}[r.Intn(5)]
}

func TestP7_3_RandomTexts(t *testing.T) {
	r := rand.New(rand.NewSource(73))
	for range 20000 {
		var all []string
		for range r.Intn(4) {
			all = append(all, randomText(r, r.Intn(8)))
		}
		again(t, strings.Join(all, " "))
	}
}

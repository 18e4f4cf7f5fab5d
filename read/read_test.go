package read_test

import (
	"math"
	"math/rand"
	"slices"
	"strconv"
	"strings"
	"testing"
	"unsafe"

	"eddywheel/api"
	"eddywheel/lex"
	"eddywheel/read"
)

// Written out, so that a limit that moves is seen.
const (
	mostText  = 4000
	mostDepth = 50
)

// A datum is made as the document tells it.

func number(at, n int) api.Node { return api.Node{Kind: api.DatInt, At: at, N: n} }

func yes(at int) api.Node { return api.Node{Kind: api.DatBool, At: at, N: 1} }

func no(at int) api.Node { return api.Node{Kind: api.DatBool, At: at} }

func name(at int, s string) api.Node { return api.Node{Kind: api.DatName, At: at, S: s} }

func list(at int, l ...int) api.Node { return api.Node{Kind: api.DatList, At: at, L: l} }

func same(a, b api.Node) bool {
	return a.Kind == b.Kind && a.At == b.At && a.N == b.N && a.S == b.S && slices.Equal(a.L, b.L)
}

// data puts what is told about a text side by side: data, and the places of those at the top.
func data(l ...api.Node) []api.Node { return l }

func tops(l ...int) []int { return l }

// has tells whether a text is these data, and whether it is so again.
func has(t *testing.T, s string, want []api.Node, wantTops []int) {
	t.Helper()
	for range 2 {
		l, top, at, e := read.Read(s)
		if !slices.EqualFunc(l, want, same) || !slices.Equal(top, wantTops) || at != 0 || e != api.OK {
			t.Fatalf("%q: %v, %v, %d, %d, not %v, %v", s, l, top, at, e, want, wantTops)
		}
	}
	isValid(t, s)
}

// isValid tells whether what is read is valid, and each datum at the top or in one list, not both.
func isValid(t *testing.T, s string) {
	t.Helper()
	l, top, _, e := read.Read(s)
	if e != api.OK || !read.May(l) {
		t.Fatalf("%q: %v, %d", s, l, e)
	}
	times := make([]int, len(l))
	for _, i := range top {
		times[i]++
	}
	for _, x := range l {
		for _, i := range x.L {
			times[i]++
		}
	}
	for i, count := range times {
		if count != 1 {
			t.Fatalf("%q: %d is there %d times: %v, %v", s, i, count, l, top)
		}
	}
	if !slices.IsSorted(top) {
		t.Fatalf("%q: %v", s, top)
	}
}

func fails(t *testing.T, s string, wantAt int, want api.Errno) {
	t.Helper()
	for range 2 {
		if l, top, at, e := read.Read(s); len(l) != 0 || len(top) != 0 || at != wantAt || e != want {
			t.Errorf("%q: %v, %v, %d, %d, not %d, %d", s, l, top, at, e, wantAt, want)
		}
	}
}

// reads tells whether a text, however long, has so many data, so many of them at the top.
func reads(t *testing.T, s string, count, countTops int) {
	t.Helper()
	l, top, at, e := read.Read(s)
	if len(l) != count || len(top) != countTops || at != 0 || e != api.OK {
		t.Fatalf("%q: %d, %d, %d, %d, not %d, %d", s, len(l), len(top), at, e, count, countTops)
	}
	isValid(t, s)
}

// may tells whether a row is valid or not, however often one asks, and whether it stays as it is.
func may(t *testing.T, want bool, l ...api.Node) {
	t.Helper()
	before := deepCopy(l)
	for range 2 {
		if read.May(l) != want {
			t.Errorf("%v is not %t", l, want)
		}
	}
	if !slices.EqualFunc(l, before, same) {
		t.Errorf("%v, before %v", l, before)
	}
}

func deepCopy(l []api.Node) []api.Node {
	l = slices.Clone(l)
	for i := range l {
		l[i].L = slices.Clone(l[i].L)
	}
	return l
}

func TestP6_1_TheEmptyRow(t *testing.T) {
	if !read.May(nil) || !read.May([]api.Node{}) || !read.May(make([]api.Node, 0, 3)) {
		t.Error("the empty row is valid")
	}
}

func TestP6_1_EachKindAlone(t *testing.T) {
	for _, n := range []int{0, 1, -1, 2, 1<<40 - 1, 1 << 40, -1 << 40, 1 << 62, math.MaxInt, math.MinInt} {
		may(t, true, number(0, n))
	}
	may(t, true, yes(0))
	may(t, true, no(0))
	for _, s := range []string{"", "a", "quote", " ", "\x00", "\xff", "(", "12", "#t", strings.Repeat("x", 33), strings.Repeat("é", mostText)} {
		may(t, true, name(0, s))
	}
	may(t, true, list(0))
	may(t, true, number(3, 4), yes(0), no(9), name(2, "x"), list(1))
}

func TestP6_1_KindsThatAreNone(t *testing.T) {
	for kind := range 256 {
		want := kind >= 1 && kind <= 4
		may(t, want, api.Node{Kind: uint8(kind)})
		may(t, want, name(0, "a"), api.Node{Kind: uint8(kind)})
		may(t, want, api.Node{Kind: uint8(kind)}, list(0, 0))
		may(t, false, api.Node{Kind: uint8(kind), At: -1})
	}
}

// Only a list has L, only a name S, and neither of these N.
func TestP6_1_FieldsThatAreNotNamedForTheKind(t *testing.T) {
	first := name(0, "a")
	for _, n := range []int{1, -1, 2, 256, 1 << 32, math.MaxInt, math.MinInt} {
		may(t, false, api.Node{Kind: api.DatName, S: "a", N: n})
		may(t, false, api.Node{Kind: api.DatName, N: n})
		may(t, false, api.Node{Kind: api.DatList, N: n})
		may(t, false, first, api.Node{Kind: api.DatList, L: []int{0}, N: n})
	}
	for _, s := range []string{"a", " ", "\x00", "0", "quote"} {
		may(t, false, api.Node{Kind: api.DatInt, S: s})
		may(t, false, api.Node{Kind: api.DatInt, N: 7, S: s})
		may(t, false, api.Node{Kind: api.DatBool, S: s})
		may(t, false, api.Node{Kind: api.DatBool, N: 1, S: s})
		may(t, false, api.Node{Kind: api.DatList, S: s})
		may(t, false, first, api.Node{Kind: api.DatList, L: []int{0}, S: s})
	}
	for _, l := range [][]int{{0}, {1}, {-1}, {0, 0}} {
		may(t, false, first, api.Node{Kind: api.DatInt, L: l})
		may(t, false, first, api.Node{Kind: api.DatInt, N: 7, L: l})
		may(t, false, first, api.Node{Kind: api.DatBool, L: l})
		may(t, false, first, api.Node{Kind: api.DatBool, N: 1, L: l})
		may(t, false, first, api.Node{Kind: api.DatName, L: l})
		may(t, false, first, api.Node{Kind: api.DatName, S: "a", L: l})
	}
}

// An empty slice is as none.
func TestP6_1_EmptySlices(t *testing.T) {
	for _, x := range []api.Node{number(0, 7), yes(0), no(0), name(0, "a"), list(0)} {
		for _, l := range [][]int{nil, {}, make([]int, 0, 4), []int{-1, 9}[:0]} {
			x.L = l
			may(t, true, x)
		}
	}
}

func TestP6_1_Offsets(t *testing.T) {
	for _, x := range []api.Node{number(0, 7), yes(0), no(0), name(0, "a"), list(0)} {
		for _, at := range []int{0, 1, mostText, 1 << 40, math.MaxInt} {
			x.At = at
			may(t, true, x)
			may(t, true, number(5, 1), x, name(2, "b"))
		}
		for _, at := range []int{-1, -2, -256, -1 << 32, math.MinInt, math.MinInt + 1} {
			x.At = at
			may(t, false, x)
			may(t, false, number(5, 1), x)
			may(t, false, x, number(5, 1))
		}
	}
}

func TestP6_1_Booleans(t *testing.T) {
	for _, n := range []int{-1, 2, 3, 255, 256, 257, 1 << 32, 1<<32 + 1, math.MaxInt, math.MinInt, math.MinInt + 1} {
		may(t, false, api.Node{Kind: api.DatBool, N: n})
		may(t, false, yes(0), api.Node{Kind: api.DatBool, N: n})
		may(t, true, number(0, n))
	}
}

func TestP6_1_IndicesThatMayBe(t *testing.T) {
	a, b, c := name(0, "a"), number(0, 2), yes(0)
	may(t, true, a, list(0, 0))
	may(t, true, a, b, c, list(0, 0, 1, 2))
	may(t, true, a, b, c, list(0, 2, 0, 1))
	may(t, true, a, b, c, list(0, 1))
	may(t, true, a, list(0, 0), list(0, 1), list(0, 2))
	may(t, true, a, list(0, 0), b, list(0, 2, 1))
	may(t, true, a, b, list(0, 1), c, list(0, 0, 3))
	may(t, true, list(0), list(0), list(0, 1, 0))
	may(t, true, a, list(7, 0), b)
}

func TestP6_1_IndicesThatMayNotBe(t *testing.T) {
	a, b := name(0, "a"), number(0, 2)
	for _, i := range []int{-1, -2, -255, -256, -1 << 32, math.MinInt, math.MinInt + 1, 2, 3, 4, 5, 256, 257, 1 << 32, 1<<32 + 1, math.MaxInt} {
		may(t, false, a, b, list(0, i), a)
		may(t, false, a, b, list(0, 0, i), a)
		may(t, false, a, b, list(0, i, 0), a)
		may(t, false, a, b, list(0, 0, 1, i), a, list(0, 2))
	}
	may(t, false, list(0, 0))
	may(t, false, list(0, 1), a)
	may(t, false, list(0, 1), list(0, 0))
	may(t, false, a, list(0, 1))
}

func TestP6_1_IndicesTwice(t *testing.T) {
	a, b, c := name(0, "a"), number(0, 2), yes(0)
	may(t, false, a, list(0, 0, 0))
	may(t, false, a, b, list(0, 0, 1, 0))
	may(t, false, a, b, list(0, 1, 1))
	may(t, false, a, list(0, 0), list(0, 0))
	may(t, false, a, b, c, list(0, 0, 1), list(0, 2, 1))
	may(t, false, a, b, c, list(0, 0), list(0, 1), list(0, 2), list(0, 3, 4, 5, 0))
	may(t, false, a, list(0, 0), list(0, 1, 0))
	may(t, false, a, list(0, 0), list(0, 1), list(0, 1))
	may(t, false, list(0), list(0, 0), list(0, 0))
	for count := 2; count < 300; count++ {
		l := make([]api.Node, count)
		var all []int
		for i := range l {
			l[i] = number(i, i)
			all = append(all, i)
		}
		may(t, true, append(slices.Clone(l), list(0, all...))...)
		may(t, false, append(slices.Clone(l), list(0, append(all, count-1)...))...)
		may(t, false, append(slices.Clone(l), list(0, append([]int{0}, all...)...))...)
	}
}

// How deep data are, and how many, is no matter of May.
func TestP6_1_LongRows(t *testing.T) {
	const count = 100000
	chain, wide := []api.Node{list(0)}, list(0)
	for i := range count {
		chain = append(chain, list(0, i))
		wide.L = append(wide.L, count-i)
	}
	if !read.May(chain) {
		t.Error("lists within lists")
	}
	flat := append(slices.Repeat([]api.Node{number(0, 1)}, count+1), wide)
	if !read.May(flat) {
		t.Error("a long list")
	}
	chain[count].L = []int{count - 2}
	flat[count+1].L[count-1] = count
	if read.May(chain) || read.May(flat) {
		t.Error("twice")
	}
}

// What lies beyond the length of a slice is not read, and nothing is written.
func TestP6_1_BeyondTheLength(t *testing.T) {
	places := []int{0, -1, 0, 9}
	row := []api.Node{name(0, "a"), list(0, places[:1]...), {}, {Kind: 99, At: -1}}
	row[1].L = places[:1]
	if !read.May(row[:2]) || read.May(row) {
		t.Error(row)
	}
	if !slices.Equal(places, []int{0, -1, 0, 9}) || !slices.EqualFunc(row, []api.Node{name(0, "a"), list(0, 0), {}, {Kind: 99, At: -1}}, same) {
		t.Error(places, row)
	}
}

// Each valid row is spoilt by one change, wherever it stands.
func TestP6_1_OneChange(t *testing.T) {
	l, _, _, _ := read.Read("(a (12 #t ()) 'b) #f ''(x)")
	may(t, true, l...)
	for i, x := range l {
		for _, bad := range []api.Node{
			{Kind: 0, At: x.At, N: x.N, S: x.S, L: x.L},
			{Kind: 5, At: x.At, N: x.N, S: x.S, L: x.L},
			{Kind: x.Kind, At: -1 - x.At, N: x.N, S: x.S, L: x.L},
			{Kind: x.Kind, At: x.At, N: x.N, S: x.S, L: append(slices.Clone(x.L), i)},
			{Kind: x.Kind, At: x.At, N: x.N, S: x.S, L: append(slices.Clone(x.L), -1)},
			{Kind: api.DatBool, At: x.At, N: x.N + 2, S: x.S, L: x.L},
			{Kind: x.Kind, At: x.At, N: 1, S: "x", L: x.L},
		} {
			row := slices.Clone(l)
			row[i] = bad
			may(t, false, row...)
		}
	}
}

// Random rows are held against a slower way: each field is looked at for each kind, and each pair of places.
func TestP6_1_RandomRows(t *testing.T) {
	good := 0
	r := rand.New(rand.NewSource(6))
	for range 40000 {
		l := randomRow(r)
		want := slowMay(l)
		may(t, want, l...)
		if want {
			good++
		}
	}
	if good < 8000 || good > 32000 {
		t.Error("good", good)
	}
}

func randomRow(r *rand.Rand) []api.Node {
	l := make([]api.Node, r.Intn(7))
	for i := range l {
		x := api.Node{Kind: uint8(1 + r.Intn(4)), At: r.Intn(9)}
		switch x.Kind {
		case api.DatInt:
			x.N = r.Intn(9) - 4
		case api.DatBool:
			x.N = r.Intn(2)
		case api.DatName:
			x.S = []string{"", "a", "b"}[r.Intn(3)]
		case api.DatList:
			for range min(i, r.Intn(3)) {
				x.L = append(x.L, r.Intn(i))
			}
		}
		l[i] = x
	}
	if len(l) > 0 && r.Intn(2) == 0 {
		spoil(r, &l[r.Intn(len(l))])
	}
	return l
}

func spoil(r *rand.Rand, x *api.Node) {
	switch r.Intn(5) {
	case 0:
		x.Kind = uint8(r.Intn(7))
	case 1:
		x.At = r.Intn(5) - 2
	case 2:
		x.N = r.Intn(5) - 2
	case 3:
		x.S = []string{"", "a"}[r.Intn(2)]
	case 4:
		x.L = append(x.L, r.Intn(9)-2)
	}
}

func slowMay(l []api.Node) bool {
	var all []int
	for i, x := range l {
		isInt, isBool, isName, isList := x.Kind == 1, x.Kind == 2, x.Kind == 3, x.Kind == 4
		if !isInt && !isBool && !isName && !isList || x.At < 0 {
			return false
		}
		if x.N != 0 && !isInt && !(isBool && x.N == 1) || x.S != "" && !isName || len(x.L) > 0 && !isList {
			return false
		}
		for _, k := range x.L {
			if k < 0 || k >= i || slices.Contains(all, k) {
				return false
			}
			all = append(all, k)
		}
	}
	return true
}

func TestP6_2_TheExample(t *testing.T) {
	has(t, "(a 'b)", data(name(1, "a"), name(3, "quote"), name(4, "b"), list(3, 1, 2), list(0, 0, 3)), tops(4))
}

func TestP6_2_TheEmptyText(t *testing.T) {
	for _, s := range []string{"", " ", "\n\t ", ";", "; (", "; '\n", strings.Repeat(" ", mostText), ";" + strings.Repeat("(", mostText-1)} {
		has(t, s, nil, nil)
	}
}

func TestP6_2_DataByThemselves(t *testing.T) {
	has(t, "12", data(number(0, 12)), tops(0))
	has(t, "-7", data(number(0, -7)), tops(0))
	has(t, "0", data(number(0, 0)), tops(0))
	has(t, "1099511627775", data(number(0, 1<<40-1)), tops(0))
	has(t, "#t", data(yes(0)), tops(0))
	has(t, "#f", data(no(0)), tops(0))
	has(t, "car", data(name(0, "car")), tops(0))
	has(t, "quote", data(name(0, "quote")), tops(0))
	has(t, " x -12 #t\n#f ; y\n z", data(name(1, "x"), number(3, -12), yes(7), no(10), name(18, "z")), tops(0, 1, 2, 3, 4))
	long := strings.Repeat("x", 32)
	has(t, long+" "+long, data(name(0, long), name(33, long)), tops(0, 1))
}

func TestP6_2_Lists(t *testing.T) {
	has(t, "()", data(list(0)), tops(0))
	has(t, " ( ; )\n ) ", data(list(1)), tops(0))
	has(t, "()()", data(list(0), list(2)), tops(0, 1))
	has(t, "(a)", data(name(1, "a"), list(0, 0)), tops(1))
	has(t, "(a 1 #t #f)", data(name(1, "a"), number(3, 1), yes(5), no(8), list(0, 0, 1, 2, 3)), tops(4))
	has(t, "a (b) c (d e) f", data(name(0, "a"), name(3, "b"), list(2, 1), name(6, "c"), name(9, "d"), name(11, "e"), list(8, 4, 5), name(14, "f")), tops(0, 2, 3, 6, 7))
	has(t, "(a a a)", data(name(1, "a"), name(3, "a"), name(5, "a"), list(0, 0, 1, 2)), tops(3))
}

func TestP6_2_ListsWithinLists(t *testing.T) {
	has(t, "(())", data(list(1), list(0, 0)), tops(1))
	has(t, "((()))", data(list(2), list(1, 0), list(0, 1)), tops(2))
	has(t, "(()())", data(list(1), list(3), list(0, 0, 1)), tops(2))
	has(t, "((a) b (c (d)) e)", data(name(2, "a"), list(1, 0), name(5, "b"), name(8, "c"), name(11, "d"), list(10, 4), list(7, 3, 5), name(15, "e"), list(0, 1, 2, 6, 7)), tops(8))
	has(t, "(a (b (c) d) e)", data(name(1, "a"), name(4, "b"), name(7, "c"), list(6, 2), name(10, "d"), list(3, 1, 3, 4), name(13, "e"), list(0, 0, 5, 6)), tops(7))
	has(t, "(a(b))(c)", data(name(1, "a"), name(3, "b"), list(2, 1), list(0, 0, 2), name(7, "c"), list(6, 4)), tops(3, 5))
}

func TestP6_2_AQuoteOfEachKind(t *testing.T) {
	has(t, "'a", data(name(0, "quote"), name(1, "a"), list(0, 0, 1)), tops(2))
	has(t, "'-5", data(name(0, "quote"), number(1, -5), list(0, 0, 1)), tops(2))
	has(t, "'#t", data(name(0, "quote"), yes(1), list(0, 0, 1)), tops(2))
	has(t, "'#f", data(name(0, "quote"), no(1), list(0, 0, 1)), tops(2))
	has(t, "'()", data(name(0, "quote"), list(1), list(0, 0, 1)), tops(2))
	has(t, "'(a b)", data(name(0, "quote"), name(2, "a"), name(4, "b"), list(1, 1, 2), list(0, 0, 3)), tops(4))
	has(t, "'quote", data(name(0, "quote"), name(1, "quote"), list(0, 0, 1)), tops(2))
	has(t, " '\n; '\n\ta b", data(name(1, "quote"), name(8, "a"), list(1, 0, 1), name(10, "b")), tops(2, 3))
	has(t, "'a'b", data(name(0, "quote"), name(1, "a"), list(0, 0, 1), name(2, "quote"), name(3, "b"), list(2, 3, 4)), tops(2, 5))
}

func TestP6_2_QuotesOfQuotes(t *testing.T) {
	has(t, "''a", data(name(0, "quote"), name(1, "quote"), name(2, "a"), list(1, 1, 2), list(0, 0, 3)), tops(4))
	has(t, "'''()", data(name(0, "quote"), name(1, "quote"), name(2, "quote"), list(3), list(2, 2, 3), list(1, 1, 4), list(0, 0, 5)), tops(6))
	has(t, "('' a)b", data(name(1, "quote"), name(2, "quote"), name(4, "a"), list(2, 1, 2), list(1, 0, 3), list(0, 4), name(6, "b")), tops(5, 6))
}

func TestP6_2_QuotesInLists(t *testing.T) {
	has(t, "('a)", data(name(1, "quote"), name(2, "a"), list(1, 0, 1), list(0, 2)), tops(3))
	has(t, "('a 'b c)", data(name(1, "quote"), name(2, "a"), list(1, 0, 1), name(4, "quote"), name(5, "b"), list(4, 3, 4), name(7, "c"), list(0, 2, 5, 6)), tops(7))
	has(t, "'('a)", data(name(0, "quote"), name(2, "quote"), name(3, "a"), list(2, 1, 2), list(1, 3), list(0, 0, 4)), tops(5))
	has(t, "'(a)(b)", data(name(0, "quote"), name(2, "a"), list(1, 1), list(0, 0, 2), name(5, "b"), list(4, 4)), tops(3, 5))
	has(t, "(a '(b '()) c)", data(name(1, "a"), name(3, "quote"), name(5, "b"), name(7, "quote"), list(8), list(7, 3, 4), list(4, 2, 5), list(3, 1, 6), name(12, "c"), list(0, 0, 7, 8)), tops(9))
}

// What is written out is a list as any other.
func TestP6_2_QuotesThatAreWrittenOut(t *testing.T) {
	has(t, "(quote a)", data(name(1, "quote"), name(7, "a"), list(0, 0, 1)), tops(2))
	has(t, "(quote)", data(name(1, "quote"), list(0, 0)), tops(1))
	has(t, "(quote a b)", data(name(1, "quote"), name(7, "a"), name(9, "b"), list(0, 0, 1, 2)), tops(3))
	has(t, "(quote 'a)", data(name(1, "quote"), name(7, "quote"), name(8, "a"), list(7, 1, 2), list(0, 0, 3)), tops(4))
	fails(t, "(quote a", 0, api.ErrOpen)
}

func TestP6_2_LongTexts(t *testing.T) {
	reads(t, strings.Repeat("()", mostText/2), mostText/2, mostText/2)
	reads(t, strings.Repeat("a ", mostText/2), mostText/2, mostText/2)
	reads(t, "("+strings.Repeat(" a", mostText/2-1)+")", mostText/2, 1)
	reads(t, strings.Repeat("'a", mostText/2), 3*mostText/2, mostText/2)
	reads(t, "("+strings.Repeat("'1", mostText/2-1)+")", 3*(mostText/2-1)+1, 1)
	deep := strings.Repeat("(", mostDepth) + strings.Repeat(")", mostDepth)
	reads(t, strings.Repeat(deep, mostText/len(deep)), mostText/2, mostText/len(deep))
	quotes := strings.Repeat("'", mostDepth) + "a "
	count := mostText / len(quotes)
	reads(t, strings.Repeat(quotes, count), count*(2*mostDepth+1), count)
}

func TestP6_2_ErrorsOfTheLexer(t *testing.T) {
	fails(t, "#", 0, api.ErrChar)
	fails(t, "a #", 2, api.ErrChar)
	fails(t, "(a [b])", 3, api.ErrChar)
	fails(t, "'\"", 1, api.ErrChar)
	fails(t, "(é)", 1, api.ErrChar)
	fails(t, "(a \xff", 3, api.ErrChar)
	fails(t, "'1099511627776", 1, api.ErrNumber)
	fails(t, "(- 00000000000001)", 3, api.ErrNumber)
	fails(t, "(\n"+strings.Repeat("x", 33)+")", 2, api.ErrLong)
	fails(t, strings.Repeat("(", mostText+1), 0, api.ErrLong)
	fails(t, strings.Repeat(" ", mostText+1), 0, api.ErrLong)
	fails(t, ")"+strings.Repeat(" ", mostText), 0, api.ErrLong)
}

// An error of the lexer comes ahead of all others, wherever they are.
func TestP6_2_TheLexerComesFirst(t *testing.T) {
	for _, s := range []string{")", "(", "'", "(')", "())", "'(", strings.Repeat("(", mostDepth+1), strings.Repeat("'", mostDepth+1)} {
		fails(t, s+" #", len(s)+1, api.ErrChar)
		fails(t, s+" 99999999999999", len(s)+1, api.ErrNumber)
		fails(t, s+" "+strings.Repeat("a", 33), len(s)+1, api.ErrLong)
		fails(t, "."+s, 0, api.ErrChar)
	}
}

func TestP6_3_ClosedTooOften(t *testing.T) {
	fails(t, ")", 0, api.ErrClose)
	fails(t, "a)", 1, api.ErrClose)
	fails(t, " ;)\n )", 5, api.ErrClose)
	fails(t, "())", 2, api.ErrClose)
	fails(t, "(a (b) c)) (", 9, api.ErrClose)
	fails(t, "'a)", 2, api.ErrClose)
	fails(t, "'())", 3, api.ErrClose)
	fails(t, "''(a) )", 6, api.ErrClose)
	fails(t, ")(", 0, api.ErrClose)
	fails(t, strings.Repeat(")", mostText), 0, api.ErrClose)
	deep := strings.Repeat("(", mostDepth) + strings.Repeat(")", mostDepth)
	fails(t, deep+")", 2*mostDepth, api.ErrClose)
}

func TestP6_3_NotClosed(t *testing.T) {
	fails(t, "(", 0, api.ErrOpen)
	fails(t, " ( ; )", 1, api.ErrOpen)
	fails(t, "(a", 0, api.ErrOpen)
	fails(t, "a (b", 2, api.ErrOpen)
	fails(t, "((", 1, api.ErrOpen)
	fails(t, "(()", 0, api.ErrOpen)
	fails(t, "(a (b)", 0, api.ErrOpen)
	fails(t, "(a (b", 3, api.ErrOpen)
	fails(t, "(a (b) (c (d)", 7, api.ErrOpen)
	fails(t, "'(", 1, api.ErrOpen)
	fails(t, "'(a", 1, api.ErrOpen)
	fails(t, "('a", 0, api.ErrOpen)
	fails(t, "(''()", 0, api.ErrOpen)
	fails(t, "('(b 'c)", 0, api.ErrOpen)
	fails(t, "('(b 'c", 2, api.ErrOpen)
	fails(t, strings.Repeat("(", mostDepth), mostDepth-1, api.ErrOpen)
	fails(t, strings.Repeat("(", mostDepth)+")", mostDepth-2, api.ErrOpen)
	fails(t, strings.Repeat("()", mostText/2-1)+"(a", mostText-2, api.ErrOpen)
}

func TestP6_3_AQuoteAtTheEnd(t *testing.T) {
	fails(t, "'", 0, api.ErrQuote)
	fails(t, "a ' ", 2, api.ErrQuote)
	fails(t, "' ; a", 0, api.ErrQuote)
	fails(t, "''", 1, api.ErrQuote)
	fails(t, "'a'", 2, api.ErrQuote)
	fails(t, "''a ' '", 6, api.ErrQuote)
	fails(t, "('", 1, api.ErrQuote)
	fails(t, "(a '", 3, api.ErrQuote)
	fails(t, "'('", 2, api.ErrQuote)
	fails(t, "(a) '", 4, api.ErrQuote)
	fails(t, strings.Repeat("'", mostDepth), mostDepth-1, api.ErrQuote)
	fails(t, strings.Repeat("(", mostDepth-1)+" '", mostDepth, api.ErrQuote)
}

func TestP6_3_AQuoteAheadOfAClosing(t *testing.T) {
	fails(t, "(')", 2, api.ErrQuote)
	fails(t, "(' )", 3, api.ErrQuote)
	fails(t, "(' ;a\n)", 6, api.ErrQuote)
	fails(t, "(a ')", 4, api.ErrQuote)
	fails(t, "('')", 3, api.ErrQuote)
	fails(t, "('a ')", 5, api.ErrQuote)
	fails(t, "(()')", 4, api.ErrQuote)
	fails(t, "'(')", 3, api.ErrQuote)
	fails(t, "((') '", 3, api.ErrQuote)
	fails(t, "(')))", 2, api.ErrQuote)
	fails(t, strings.Repeat("(", mostDepth-1)+"')", mostDepth, api.ErrQuote)
}

// A quote is an open list, too, so a closing that follows it at the top is not one without a list.
func TestP6_3_AQuoteAheadOfAClosingAtTheTop(t *testing.T) {
	fails(t, "')", 1, api.ErrQuote)
	fails(t, "a ' )", 4, api.ErrQuote)
	fails(t, "'')", 2, api.ErrQuote)
	fails(t, "'a')", 3, api.ErrQuote)
	fails(t, "())", 2, api.ErrClose)
	fails(t, "'a)", 2, api.ErrClose)
	fails(t, strings.Repeat("'", mostDepth)+")", mostDepth, api.ErrQuote)
}

// deepest are texts of 50 lists and quotes that are open, and what closes them when their datum has come.
func deepest() (fronts, backs []string) {
	for quotes := range mostDepth + 1 {
		lists := mostDepth - quotes
		opens, marks := strings.Repeat("(", lists), strings.Repeat("'", quotes)
		fronts = append(fronts, opens+marks, marks+opens)
		backs = append(backs, strings.Repeat(")", lists), strings.Repeat(")", lists))
	}
	for _, s := range []string{"('", "'("} {
		fronts = append(fronts, strings.Repeat(s, mostDepth/2))
		backs = append(backs, strings.Repeat(")", mostDepth/2))
	}
	return fronts, backs
}

func TestP6_3_AsDeepAsMayBe(t *testing.T) {
	fronts, backs := deepest()
	for i, s := range fronts {
		count := mostDepth + strings.Count(s, "'") + 1
		reads(t, s+"a"+backs[i], count, 1)
		reads(t, "b "+s+"#f"+backs[i]+s+"12"+backs[i], 1+2*count, 3)
	}
}

func TestP6_3_TooDeep(t *testing.T) {
	fronts, backs := deepest()
	for i, s := range fronts {
		fails(t, s+"(", mostDepth, api.ErrDeep)
		fails(t, s+"'", mostDepth, api.ErrDeep)
		fails(t, s+"()"+backs[i], mostDepth, api.ErrDeep)
		fails(t, s+"'a"+backs[i], mostDepth, api.ErrDeep)
		fails(t, " "+s+";\n 'a"+backs[i]+")", mostDepth+4, api.ErrDeep)
		fails(t, s+"a"+backs[i]+" "+s+"(a"+backs[i], 2*mostDepth+len(backs[i])+2, api.ErrDeep)
	}
	for count := mostDepth + 1; count <= 300; count++ {
		fails(t, strings.Repeat("(", count)+strings.Repeat(")", count), mostDepth, api.ErrDeep)
		fails(t, strings.Repeat("'", count)+"a", mostDepth, api.ErrDeep)
	}
	fails(t, strings.Repeat("(", mostText), mostDepth, api.ErrDeep)
	fails(t, strings.Repeat("'", mostText), mostDepth, api.ErrDeep)
}

// A list or a quote is open no more when it is complete.
func TestP6_3_WhatIsCompleteIsNotOpen(t *testing.T) {
	for _, x := range []struct {
		s     string
		count int
	}{{"()", 1}, {"'a", 3}, {"(a)", 2}, {"'1", 3}, {"'#f", 3}} {
		opens, closes := strings.Repeat("(", mostDepth-1), strings.Repeat(")", mostDepth-1)
		reads(t, opens+strings.Repeat(x.s+" ", 100)+closes, mostDepth-1+100*x.count, 1)
		fails(t, opens+x.s+"((", mostDepth+len(x.s), api.ErrDeep)
		fails(t, opens+x.s+"('", mostDepth+len(x.s), api.ErrDeep)
		fails(t, opens+x.s+" ''", mostDepth+len(x.s)+1, api.ErrDeep)
		fails(t, opens+x.s+" '(", mostDepth+len(x.s)+1, api.ErrDeep)
		fails(t, opens+x.s+" (", mostDepth+len(x.s), api.ErrOpen)
		fails(t, opens+x.s+" '", mostDepth+len(x.s), api.ErrQuote)
	}
	opens, closes := strings.Repeat("(", mostDepth-2), strings.Repeat(")", mostDepth-2)
	reads(t, opens+strings.Repeat("'()''a ", 60)+closes, mostDepth-2+60*8, 1)
	fails(t, opens+"'''a"+closes, mostDepth, api.ErrDeep)
	fails(t, opens+"''()"+closes, mostDepth, api.ErrDeep)
}

func TestP6_3_TheFirstErrorIsTold(t *testing.T) {
	open := strings.Repeat("(", mostDepth+1)
	fails(t, ")"+open, 0, api.ErrClose)
	fails(t, ") '", 0, api.ErrClose)
	fails(t, ") (')", 0, api.ErrClose)
	fails(t, "(')"+open, 2, api.ErrQuote)
	fails(t, "(') )", 2, api.ErrQuote)
	fails(t, "(' ) (", 3, api.ErrQuote)
	fails(t, "(')'", 2, api.ErrQuote)
	fails(t, open+")", mostDepth, api.ErrDeep)
	fails(t, open+"')", mostDepth, api.ErrDeep)
	fails(t, open+strings.Repeat(")", mostDepth+2), mostDepth, api.ErrDeep)
	fails(t, "(a)) '", 3, api.ErrClose)
	fails(t, "((a) '", 5, api.ErrQuote)
	fails(t, "( '(a)", 0, api.ErrOpen)
}

// scribble writes over all the memory that belongs to a list.
func scribble(l []int) {
	l = l[:cap(l)]
	for i := range l {
		l[i] = -99
	}
}

// Many short lists, so that some would stand side by side in memory if they shared it.
func TestP6_4_ResultsShareNoMemory(t *testing.T) {
	for _, s := range []string{
		"(a (b c) 'd () '() (e f g)) 1 (2 3) ''x",
		strings.Repeat("(a) ", 100),
		strings.Repeat("'a ", 70),
		"(" + strings.Repeat("(a 'b) () ", 50) + ")",
		strings.Repeat("(", mostDepth) + strings.Repeat(")1", mostDepth),
	} {
		l, top, _, _ := read.Read(s)
		want, wantTop := deepCopy(l), slices.Clone(top)
		for i := range l {
			scribble(l[i].L)
			if !slices.EqualFunc(l[i+1:], want[i+1:], same) || !slices.Equal(top, wantTop) {
				t.Fatalf("%d shares: %v, %v", i, l, top)
			}
		}
		before := deepCopy(l)
		scribble(top)
		if !slices.EqualFunc(l, before, same) {
			t.Fatal(l, before)
		}
		clear(l[:cap(l)])
		has(t, s, want, wantTop)
	}
}

func TestP6_4_TheTextIsNotKept(t *testing.T) {
	text := []byte("(long 'name 12) long")
	l, top, _, _ := read.Read(unsafe.String(&text[0], len(text)))
	if string(text) != "(long 'name 12) long" {
		t.Error(string(text))
	}
	copy(text, strings.Repeat("#", len(text)))
	want := data(name(1, "long"), name(6, "quote"), name(7, "name"), list(6, 1, 2), number(12, 12), list(0, 0, 3, 4), name(16, "long"))
	if !slices.EqualFunc(l, want, same) || !slices.Equal(top, tops(5, 6)) {
		t.Fatal(l, top)
	}
	if unsafe.StringData(l[0].S) == unsafe.StringData(l[6].S) {
		t.Error("shared")
	}
}

// writer makes a text and the data that it must be read as, side by side.
type writer struct {
	r    *rand.Rand
	text string
	data []api.Node
}

func (w *writer) gap() string {
	return []string{" ", "\n", "\t", "  ", ";\n", " ; (')\n "}[w.r.Intn(6)]
}

func (w *writer) add(x api.Node) int {
	w.data = append(w.data, x)
	return len(w.data) - 1
}

// datum writes a datum of so many lists within lists at most, and answers its place.
func (w *writer) datum(depth int) int {
	at := len(w.text)
	switch kind := w.r.Intn(9); {
	case depth > 0 && kind < 3:
		w.text += "("
		var l []int
		for range w.r.Intn(4) {
			l = append(l, w.datum(depth-1))
			w.text += w.gap()
		}
		w.text += ")"
		return w.add(list(at, l...))
	case depth > 0 && kind < 5:
		w.text += "'" + []string{"", "", w.gap()}[w.r.Intn(3)]
		q := w.add(name(at, "quote"))
		return w.add(list(at, q, w.datum(depth-1)))
	case kind < 6:
		n := w.r.Intn(2001) - 1000
		w.text += strconv.Itoa(n)
		return w.add(number(at, n))
	case kind < 7:
		n := w.r.Intn(2)
		w.text += []string{"#f", "#t"}[n]
		return w.add([]api.Node{no(at), yes(at)}[n])
	}
	s := []string{"a", "quote", "set!", "-", "x1"}[w.r.Intn(5)]
	w.text += s
	return w.add(name(at, s))
}

func TestP6_4_RandomDataAreReadAsTheyWereWritten(t *testing.T) {
	for seed := range int64(4) {
		r := rand.New(rand.NewSource(seed))
		for range 5000 {
			w := writer{r: r}
			var top []int
			for range r.Intn(4) {
				w.text += w.gap()
				top = append(top, w.datum(r.Intn(8)))
				w.text += w.gap()
			}
			has(t, w.text, w.data, top)
		}
	}
}

// slow is a second reader, that calls itself for each datum.
type slow struct {
	tokens []api.Token
	data   []api.Node
}

func slowly(s string) ([]api.Node, []int, int, api.Errno) {
	tokens, at, e := lex.Lex(s)
	if e != api.OK {
		return nil, nil, at, e
	}
	m := slow{tokens: tokens}
	var top []int
	for len(m.tokens) > 0 {
		if m.tokens[0].Kind == api.TokClose {
			return nil, nil, m.tokens[0].At, api.ErrClose
		}
		i, at, e := m.datum(mostDepth)
		if e != api.OK {
			return nil, nil, at, e
		}
		top = append(top, i)
	}
	return m.data, top, 0, api.OK
}

func (m *slow) add(x api.Node) (int, int, api.Errno) {
	m.data = append(m.data, x)
	return len(m.data) - 1, 0, api.OK
}

// datum is the next one, which is there; it may have so many lists within lists.
func (m *slow) datum(depth int) (int, int, api.Errno) {
	x := m.tokens[0]
	m.tokens = m.tokens[1:]
	switch x.Kind {
	case api.TokInt:
		return m.add(number(x.At, x.N))
	case api.TokBool:
		return m.add([]api.Node{no(x.At), yes(x.At)}[x.N])
	case api.TokName:
		return m.add(name(x.At, x.S))
	}
	if depth == 0 {
		return 0, x.At, api.ErrDeep
	}
	if x.Kind == api.TokQuote {
		return m.quoted(depth, x.At)
	}
	var l []int
	for len(m.tokens) > 0 {
		if m.tokens[0].Kind == api.TokClose {
			m.tokens = m.tokens[1:]
			return m.add(list(x.At, l...))
		}
		i, at, e := m.datum(depth - 1)
		if e != api.OK {
			return 0, at, e
		}
		l = append(l, i)
	}
	return 0, x.At, api.ErrOpen
}

func (m *slow) quoted(depth, at int) (int, int, api.Errno) {
	if len(m.tokens) == 0 {
		return 0, at, api.ErrQuote
	}
	if m.tokens[0].Kind == api.TokClose {
		return 0, m.tokens[0].At, api.ErrQuote
	}
	q, _, _ := m.add(name(at, "quote"))
	i, wrong, e := m.datum(depth - 1)
	if e != api.OK {
		return 0, wrong, e
	}
	return m.add(list(at, q, i))
}

// Random texts are held against the second reader, good ones and bad ones; some are deep.
func TestP6_4_RandomTexts(t *testing.T) {
	counts := map[api.Errno]int{}
	for seed := range int64(4) {
		r := rand.New(rand.NewSource(seed))
		for range 10000 {
			s := randomText(r)
			l, top, at, e := read.Read(s)
			wantL, wantTop, wantAt, want := slowly(s)
			if !slices.EqualFunc(l, wantL, same) || !slices.Equal(top, wantTop) || at != wantAt || e != want {
				t.Fatalf("%q: %v, %v, %d, %d, not %v, %v, %d, %d", s, l, top, at, e, wantL, wantTop, wantAt, want)
			}
			if e == api.OK {
				isValid(t, s)
			}
			counts[e]++
		}
	}
	for _, e := range []api.Errno{api.OK, api.ErrOpen, api.ErrClose, api.ErrDeep, api.ErrQuote, api.ErrChar, api.ErrNumber} {
		if counts[e] < 400 {
			t.Error("few of the texts were of the error", e, counts)
		}
	}
}

func randomText(r *rand.Rand) string {
	parts := []string{"(", ")", "(", ")", "'a ", "'", "a ", "12 ", "#t ", "'(", "()", " ", "(b) ", "''c "}
	s := ""
	if r.Intn(4) == 0 {
		for range mostDepth - 2 {
			s += []string{"(", "(", "(a ", "'"}[r.Intn(4)]
		}
	}
	for range r.Intn(20) {
		s += parts[r.Intn(len(parts))]
	}
	if r.Intn(2) == 0 {
		s += strings.Repeat(")", max(0, strings.Count(s, "(")-strings.Count(s, ")")))
	}
	if r.Intn(20) == 0 {
		s += []string{"#", " 99999999999999"}[r.Intn(2)]
	}
	return s
}

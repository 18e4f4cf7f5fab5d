package names_test

import (
	"math"
	"math/rand"
	"strconv"
	"strings"
	"testing"
	"unsafe"

	"eddywheel/api"
	"eddywheel/names"
)

// Written out, so that a limit that moves is seen.
const (
	mostNames = 1 << 12
	mostName  = 32
)

// puts adds a name that is not in the table yet.
func puts(t *testing.T, n *names.Names, s string) {
	t.Helper()
	before := n.Len()
	if i, ok := n.Find(s); i != 0 || ok {
		t.Errorf("%q is there already: %d", s, i)
	}
	if i, e := n.Put(s); i != before || e != api.OK || n.Len() != before+1 {
		t.Fatalf("%q: %d, %d; Len %d, before %d", s, i, e, n.Len(), before)
	}
	has(t, n, before, s)
}

// has tells whether a name and a number belong to each other, however one asks.
func has(t *testing.T, n *names.Names, i int, s string) {
	t.Helper()
	before := n.Len()
	if k, e := n.Put(s); k != i || e != api.OK || n.Len() != before {
		t.Errorf("Put %q: %d, %d, not %d; Len %d, before %d", s, k, e, i, n.Len(), before)
	}
	if k, ok := n.Find(s); k != i || !ok {
		t.Errorf("Find %q: %d, %t, not %d", s, k, ok, i)
	}
	if x, ok := n.Text(i); x != s || !ok {
		t.Errorf("Text %d: %q, %t, not %q", i, x, ok, s)
	}
}

// hasAll tells whether a table has these names, by their numbers, and no others.
func hasAll(t *testing.T, n *names.Names, all []string) {
	t.Helper()
	if n.Len() != len(all) {
		t.Fatal(n.Len(), len(all))
	}
	for i, s := range all {
		has(t, n, i, s)
	}
	hasNoOtherNumbers(t, n)
}

func hasNoOtherNumbers(t *testing.T, n *names.Names) {
	t.Helper()
	count := n.Len()
	for _, i := range []int{math.MinInt, math.MinInt + 1, -1 << 32, -mostNames, -256, -2, -1, count, count + 1, count + 256, mostNames, mostNames + 1, 1 << 16, 1 << 32, 1<<32 + 1, math.MaxInt} {
		if s, ok := n.Text(i); s != "" || ok {
			t.Errorf("Text %d of %d: %q, %t", i, count, s, ok)
		}
	}
}

func refuses(t *testing.T, n *names.Names, want api.Errno, s string) {
	t.Helper()
	before := n.Len()
	if i, e := n.Put(s); i != 0 || e != want {
		t.Errorf("%q: %d, %d, not %d", s, i, e, want)
	}
	if n.Len() != before {
		t.Error(n.Len(), before)
	}
	isNot(t, n, s)
}

func isNot(t *testing.T, n *names.Names, s string) {
	t.Helper()
	if i, ok := n.Find(s); i != 0 || ok {
		t.Errorf("%q: %d, %t", s, i, ok)
	}
}

// badNames are those that have too few bytes or too many, some by a count that a byte or two would wrap.
func badNames() []string {
	l := []string{"", strings.Repeat("é", 17), strings.Repeat("€", 11), strings.Repeat("\x00", mostName+1), strings.Repeat("\xff", mostName+1), strings.Repeat(" ", mostName) + "a"}
	for _, count := range []int{mostName + 1, mostName + 2, 2 * mostName, 255, 256, 257, 256 + mostName, 4000, 1 << 16, 1<<16 + 1} {
		l = append(l, strings.Repeat("z", count))
	}
	return l
}

// full is a table of as many names as there may be, and these.
func full(t *testing.T) (*names.Names, []string) {
	t.Helper()
	n, all := names.New(), make([]string, mostNames)
	for i := range all {
		all[i] = "n" + strconv.Itoa(i)
		if k, e := n.Put(all[i]); k != i || e != api.OK {
			t.Fatal(i, k, e)
		}
	}
	return n, all
}

func TestP4_1_TheExample(t *testing.T) {
	n := names.New()
	for k, x := range []struct {
		s string
		i int
	}{{"a", 0}, {"b", 1}, {"a", 0}} {
		if i, e := n.Put(x.s); i != x.i || e != api.OK {
			t.Error(k, i, e)
		}
	}
	if s, ok := n.Text(1); s != "b" || !ok {
		t.Error(s, ok)
	}
}

func TestP4_1_ANewTableIsEmpty(t *testing.T) {
	n := names.New()
	if n == nil || n.Len() != 0 {
		t.Fatal(n, n.Len())
	}
	for _, s := range append(badNames(), "a", "0", "car", "\x00", "\xff", " ") {
		isNot(t, n, s)
	}
	if s, ok := n.Text(0); s != "" || ok {
		t.Error(s, ok)
	}
	hasNoOtherNumbers(t, n)
}

func TestP4_1_NumbersFollowTheOrderOfPutting(t *testing.T) {
	n := names.New()
	all := []string{"z", "a", "zz", "m", "aa", "0", "-1"}
	for _, s := range all {
		puts(t, n, s)
	}
	hasAll(t, n, all)
}

func TestP4_1_TheLengthsThatMayBe(t *testing.T) {
	n := names.New()
	var all []string
	for count := 1; count <= mostName; count++ {
		s := strings.Repeat("z", count)
		puts(t, n, s)
		all = append(all, s)
	}
	for _, s := range []string{strings.Repeat("é", 16), strings.Repeat("€", 10) + "ab", strings.Repeat("\x00", mostName), strings.Repeat("\xff", mostName)} {
		puts(t, n, s)
		all = append(all, s)
	}
	hasAll(t, n, all)
}

func TestP4_1_TheLengthsThatMayNotBe(t *testing.T) {
	n := names.New()
	for _, s := range badNames() {
		refuses(t, n, api.ErrArg, s)
	}
	hasAll(t, n, nil)
	puts(t, n, "a")
	puts(t, n, strings.Repeat("z", mostName))
	for _, s := range badNames() {
		refuses(t, n, api.ErrArg, s)
	}
	hasAll(t, n, []string{"a", strings.Repeat("z", mostName)})
}

func TestP4_1_EveryByteIsAName(t *testing.T) {
	n := names.New()
	all := make([]string, 256)
	for b := range all {
		all[b] = string([]byte{byte(b)})
		puts(t, n, all[b])
	}
	hasAll(t, n, all)
}

func TestP4_1_NamesThatLookAlikeAreApart(t *testing.T) {
	n := names.New()
	all := []string{
		"a", "A", " a", "a ", "a\n", "\ta", "aa", "ab",
		"\x00", "\x00\x00", "a\x00", "a\x00b", "\x00a",
		"\xff", "\xfe", "\xff\xfe", "\xc3", "\xc3\xc3", "\ufffd", "a\xff", "a\xfe", "a\ufffd",
		"é", "e\u0301", "É", "\xe9", "\ufeffa", "K", "\u212a",
		"1", "01", "+1", "1.0", "#t", "()", "\"a\"",
		strings.Repeat("z", 31), strings.Repeat("z", 31) + "y", strings.Repeat("z", 32), "y" + strings.Repeat("z", 31),
	}
	for _, s := range all {
		puts(t, n, s)
	}
	hasAll(t, n, all)
}

func TestP4_1_TheSameNameAgain(t *testing.T) {
	n := names.New()
	all := []string{"b", "a", strings.Repeat("z", mostName), "\xff"}
	for _, s := range all {
		puts(t, n, s)
	}
	for range 3 {
		for i := len(all) - 1; i >= 0; i-- {
			has(t, n, i, string([]byte(all[i])))
		}
	}
	puts(t, n, "c")
	hasAll(t, n, append(all, "c"))
}

func TestP4_1_FindAddsNothing(t *testing.T) {
	n := names.New()
	puts(t, n, "abc")
	for range 2 {
		for _, s := range append(badNames(), "ab", "bc", "abcd", "ABC", "b", "abc\x00") {
			isNot(t, n, s)
		}
	}
	puts(t, n, "b")
	hasAll(t, n, []string{"abc", "b"})
}

func TestP4_1_TextAddsNothing(t *testing.T) {
	n := names.New()
	puts(t, n, "a")
	hasNoOtherNumbers(t, n)
	isNot(t, n, "")
	puts(t, n, "b")
	hasAll(t, n, []string{"a", "b"})
}

func TestP4_1_AFullTable(t *testing.T) {
	n, all := full(t)
	for _, s := range []string{"n", "x", "n4096", "N0", "\xff", strings.Repeat("z", mostName)} {
		refuses(t, n, api.ErrLong, s)
		refuses(t, n, api.ErrLong, s)
	}
	for _, s := range badNames() {
		refuses(t, n, api.ErrArg, s)
	}
	hasAll(t, n, all)
}

func TestP4_1_TheLastNameFits(t *testing.T) {
	n := names.New()
	for i := range mostNames - 1 {
		if k, e := n.Put("n" + strconv.Itoa(i)); k != i || e != api.OK {
			t.Fatal(i, k, e)
		}
	}
	refuses(t, n, api.ErrArg, "")
	has(t, n, mostNames-2, "n"+strconv.Itoa(mostNames-2))
	puts(t, n, "last")
	refuses(t, n, api.ErrLong, "one more")
	has(t, n, mostNames-1, "last")
	has(t, n, 0, "n0")
}

func TestP4_1_TablesAreApart(t *testing.T) {
	a, b := names.New(), names.New()
	if a == b {
		t.Fatal("one table")
	}
	puts(t, a, "x")
	hasAll(t, b, nil)
	isNot(t, b, "x")
	puts(t, b, "y")
	puts(t, b, "x")
	puts(t, a, "z")
	isNot(t, a, "y")
	isNot(t, b, "z")
	hasAll(t, a, []string{"x", "z"})
	hasAll(t, b, []string{"y", "x"})
}

func TestP4_1_AFullTableLeavesOthersRoom(t *testing.T) {
	a, all := full(t)
	b := names.New()
	puts(t, b, "x")
	refuses(t, a, api.ErrLong, "x")
	hasAll(t, b, []string{"x"})
	hasAll(t, a, all)
}

func TestP4_1_TheNilTable(t *testing.T) {
	var n *names.Names
	for _, s := range append(badNames(), "a", "a", "b", strings.Repeat("z", mostName), "\xff") {
		refuses(t, n, api.ErrNone, s)
	}
	if n.Len() != 0 {
		t.Error(n.Len())
	}
	if s, ok := n.Text(0); s != "" || ok {
		t.Error(s, ok)
	}
	hasNoOtherNumbers(t, n)
}

func TestP4_1_ATableNotMadeByNewIsEmpty(t *testing.T) {
	n := new(names.Names)
	hasAll(t, n, nil)
	isNot(t, n, "a")
	refuses(t, n, api.ErrArg, "")
	puts(t, n, "a")
	puts(t, n, "b")
	hasAll(t, n, []string{"a", "b"})
}

// A table that kept the name it was given would keep the whole text that it is a piece of: the bytes change here so that this is seen.
func TestP4_1_TheNameGivenIsNotKept(t *testing.T) {
	text := []byte("(define long 1)")
	n := names.New()
	puts(t, n, unsafe.String(&text[8], 4))
	copy(text[8:], "grog")
	hasAll(t, n, []string{"long"})
	isNot(t, n, "grog")
}

func TestP4_1_TextsShareNoMemory(t *testing.T) {
	given := strings.Repeat("long", 2)
	n := names.New()
	puts(t, n, given)
	a, _ := n.Text(0)
	b, _ := n.Text(0)
	if unsafe.StringData(a) == unsafe.StringData(given) || unsafe.StringData(a) == unsafe.StringData(b) {
		t.Error("shared")
	}
}

func TestP4_2_NumbersNeverChange(t *testing.T) {
	n := names.New()
	var all []string
	for i := range 300 {
		all = append(all, strconv.Itoa(i*7919%1000))
		puts(t, n, all[i])
		refuses(t, n, api.ErrArg, "")
		isNot(t, n, "none")
		hasAll(t, n, all)
	}
}

// Many calls in a random order are held against two plain lists; the names are few enough that they come again, and more than the table takes.
func TestP4_2_RandomCalls(t *testing.T) {
	for seed := range int64(4) {
		r := rand.New(rand.NewSource(seed))
		n, numbers, all := names.New(), map[string]int{}, []string(nil)
		for range 40000 {
			s := randomName(r)
			wantNumber, known := numbers[s]
			want := api.OK
			switch {
			case len(s) < 1 || len(s) > mostName:
				want = api.ErrArg
			case !known && len(all) == mostNames:
				want = api.ErrLong
			case !known:
				wantNumber = len(all)
				numbers[s] = wantNumber
				all = append(all, s)
			}
			if i, e := n.Put(s); i != wantNumber || e != want {
				t.Fatalf("%q: %d, %d, not %d, %d", s, i, e, wantNumber, want)
			}
			if n.Len() != len(all) {
				t.Fatal(n.Len(), len(all))
			}
		}
		if len(all) != mostNames {
			t.Error("the table did not get full", len(all))
		}
		hasAll(t, n, all)
	}
}

func randomName(r *rand.Rand) string {
	switch r.Intn(10) {
	case 0:
		b := make([]byte, r.Intn(mostName+3))
		for i := range b {
			b[i] = byte(r.Intn(256))
		}
		return string(b)
	case 1:
		return strings.Repeat(string([]byte{byte(r.Intn(256))}), r.Intn(mostName+3))
	default:
		return strconv.Itoa(r.Intn(6000))
	}
}

package move_test

import (
	"math/rand"
	"reflect"
	"slices"
	"testing"

	"eddywheel/api"
	"eddywheel/arena"
	"eddywheel/move"
)

// Written out, so that a limit that moves is seen.
const (
	mostWords  = 1 << 16
	mostFields = 255
	mostKind   = 9

	unit api.Word = 26
)

// at encodes an address by the document's words, not by package word.
func at(n int) api.Word { return api.Word(n)*8 + 1 }

func number(n int) api.Word { return api.Word(uint64(n) * 8) }

type object struct {
	kind   int
	fields []api.Word
}

func obj(kind int, fields ...api.Word) object { return object{kind, fields} }

// build is an arena of these objects, one behind the other from the address 0.
func build(t *testing.T, size int, objects ...object) *arena.Arena {
	t.Helper()
	a, e := arena.New(size)
	if e != api.OK {
		t.Fatal(size, e)
	}
	for _, o := range objects {
		if _, e := a.Alloc(o.kind, o.fields...); e != api.OK {
			t.Fatal(o, e)
		}
	}
	return a
}

// all are the objects of an arena, by their addresses; every address is asked.
func all(a *arena.Arena) map[api.Word]object {
	found := map[api.Word]object{}
	for n := range a.Size() + 1 {
		w := at(n)
		if a.Kind(w) == 0 {
			continue
		}
		fields := make([]api.Word, a.Len(w))
		for i := range fields {
			fields[i], _ = a.Get(w, i)
		}
		found[w] = object{a.Kind(w), fields}
	}
	return found
}

func wordsOf(objects ...object) int {
	n := 0
	for _, o := range objects {
		n += 1 + len(o.fields)
	}
	return n
}

// same tells whether an arena has these objects, one behind the other, and nothing else.
func same(t *testing.T, a *arena.Arena, size int, objects ...object) {
	t.Helper()
	if a == nil || a.Size() != size || a.Used() != wordsOf(objects...) {
		t.Fatal(a, a.Size(), size, a.Used(), wordsOf(objects...))
	}
	next := 0
	for i, o := range objects {
		w := at(next)
		if a.Kind(w) != o.kind || a.Len(w) != len(o.fields) {
			t.Fatal(i, a.Kind(w), o.kind, a.Len(w), len(o.fields))
		}
		for k, want := range o.fields {
			if x, e := a.Get(w, k); x != want || e != api.OK {
				t.Error(i, k, uint64(x), uint64(want), e)
			}
		}
		next += 1 + len(o.fields)
	}
	if n := len(all(a)); n != len(objects) {
		t.Error(n, len(objects))
	}
}

// live applies Live and Reach, and tells whether they agree and leave the arena as it was.
func live(t *testing.T, a *arena.Arena, roots ...api.Word) (*arena.Arena, []api.Word) {
	t.Helper()
	before, used, size, given := all(a), a.Used(), a.Size(), slices.Clone(roots)
	b, words := move.Live(a, roots...)
	reach := move.Reach(a, roots...)
	if !reflect.DeepEqual(all(a), before) || a.Used() != used || a.Size() != size {
		t.Error("the old arena is changed", a.Used(), used, a.Size(), size)
	}
	if !slices.Equal(roots, given) {
		t.Error("the roots are changed", roots, given)
	}
	if b == nil || b == a || b.Size() != size || b.Used() != reach || len(words) != len(roots) {
		t.Fatal(b == nil, b == a, b.Size(), size, b.Used(), reach, len(words), len(roots))
	}
	return b, words
}

func wants(t *testing.T, words []api.Word, want ...api.Word) {
	t.Helper()
	if !slices.Equal(words, want) {
		t.Error(words, want)
	}
}

// inertWords are those that are copied to themselves: no address among them is a valid one.
func inertWords() []api.Word {
	return []api.Word{0, 2, 3, 4, 5, 6, 7, 8, 10, 12, 18, 26, 34, number(-1), number(1<<40 - 1), number(1 - 1<<40), 1<<43 - 5, 1<<43 - 4, 1 << 43, 1<<43 | 1, 1<<43 | 3, 1<<43 + 9, 1<<44 | 1, 1<<63 | 1, 1<<64 - 7, 1<<64 - 6, 1<<64 - 1}
}

// goneWords are valid addresses at which an arena has no object, if its only one begins at 0, has at least two fields, and fills it up to size.
func goneWords(size int) []api.Word {
	return []api.Word{at(1), at(2), at(size), at(size + 1), at(mostWords - 1), at(mostWords), at(mostWords + 1), at(1 << 32), at(1<<40 - 1)}
}

func TestP3_1_ReachCountsFieldsAndOneWordMore(t *testing.T) {
	for _, count := range []int{0, 1, 2, 3, 17, mostFields - 1, mostFields} {
		a := build(t, 600, obj(7, make([]api.Word, count)...), obj(1, 0))
		if n := move.Reach(a, at(0)); n != count+1 {
			t.Error(count, n)
		}
		if n := move.Reach(a, at(0), at(count+1)); n != count+3 {
			t.Error(count, n)
		}
	}
}

func TestP3_1_ReachGoesThroughFields(t *testing.T) {
	// 0 -> 3 -> 5 -> 3; 8 -> 0; 10 alone.
	a := build(t, 20, obj(1, at(3), number(1)), obj(2, at(5)), obj(3, number(2), at(3)), obj(4, at(0)), obj(5))
	for _, c := range []struct {
		want  int
		roots []api.Word
	}{{8, []api.Word{at(0)}}, {5, []api.Word{at(3)}}, {5, []api.Word{at(5)}}, {10, []api.Word{at(8)}}, {1, []api.Word{at(10)}}, {9, []api.Word{at(0), at(10)}}, {11, []api.Word{at(10), at(8)}}, {11, []api.Word{at(8), at(0), at(3), at(5), at(10)}}} {
		if n := move.Reach(a, c.roots...); n != c.want {
			t.Error(c.roots, n, c.want)
		}
	}
}

func TestP3_1_ReachCountsAnObjectOnce(t *testing.T) {
	a := build(t, 20, obj(1, at(0), at(0)), obj(2, at(0), at(3), at(0)))
	for range 3 {
		if n := move.Reach(a, at(0), at(0), at(0)); n != 3 {
			t.Error(n)
		}
		if n := move.Reach(a, at(3), at(0), at(3)); n != 7 {
			t.Error(n)
		}
	}
}

func TestP3_1_NothingIsReachedFromOtherWords(t *testing.T) {
	a := build(t, 4, obj(1, at(1), at(0), at(4)))
	for _, w := range append(inertWords(), goneWords(4)...) {
		if n := move.Reach(a, w); n != 0 {
			t.Error(uint64(w), n)
		}
		if n := move.Reach(a, w, at(0), w); n != 4 {
			t.Error(uint64(w), n)
		}
	}
}

func TestP3_1_NoRoots(t *testing.T) {
	a := build(t, 9, obj(1, at(0), number(5)))
	if move.Reach(a) != 0 || move.Reach(a, []api.Word{}...) != 0 || move.Reach(build(t, 1)) != 0 {
		t.Error(move.Reach(a), move.Reach(build(t, 1)))
	}
}

func TestP3_1_ReachLeavesTheArena(t *testing.T) {
	a := build(t, 9, obj(1, at(3), at(9)), obj(2, at(0), 1<<43|1))
	before := all(a)
	roots := []api.Word{at(3), at(5), at(0)}
	if n := move.Reach(a, roots...); n != 6 {
		t.Error(n)
	}
	if !reflect.DeepEqual(all(a), before) || a.Used() != 6 {
		t.Error(a.Used())
	}
	wants(t, roots, at(3), at(5), at(0))
}

func TestP3_1_TheNilArenaReachesNothing(t *testing.T) {
	for _, roots := range [][]api.Word{nil, {}, {at(0)}, {at(0), at(5), api.Nil, 1<<43 | 1}} {
		if n := move.Reach(nil, roots...); n != 0 {
			t.Error(roots, n)
		}
	}
}

func TestP3_2_TheChaptersExample(t *testing.T) {
	a := build(t, 12, obj(1, at(2)), obj(1, api.Nil))
	b, words := live(t, a, at(2))
	wants(t, words, at(0))
	same(t, b, 12, obj(1, api.Nil))
}

func TestP3_2_SizeStays(t *testing.T) {
	for _, size := range []int{1, 2, 3, 100, 256, mostWords - 1, mostWords} {
		a := build(t, size, obj(3))
		b, words := live(t, a, at(0))
		wants(t, words, at(0))
		same(t, b, size, obj(3))
		b, _ = live(t, a)
		same(t, b, size)
	}
}

func TestP3_2_KindsAndLengthsStay(t *testing.T) {
	for kind := 1; kind <= mostKind; kind++ {
		for _, count := range []int{0, 1, 2, mostFields} {
			fields := make([]api.Word, count)
			for i := range fields {
				fields[i] = number(i - 3)
			}
			a := build(t, 600, obj(1, 0), obj(kind, fields...))
			b, words := live(t, a, at(2))
			wants(t, words, at(0))
			same(t, b, 600, obj(kind, fields...))
		}
	}
}

func TestP3_2_RootsFirstThenFieldsInOrder(t *testing.T) {
	// 0: a, with d and e; 3: b, with f; 5: c; 6: d, with g; 8: e; 9: f; 10: g.
	a := build(t, 30, obj(1, at(6), at(8)), obj(2, at(9)), obj(3), obj(4, at(10)), obj(5), obj(6), obj(7))
	b, words := live(t, a, at(3), at(5), at(0))
	wants(t, words, at(0), at(2), at(3))
	// b, c, a, then f of b, d and e of a, then g of d.
	same(t, b, 30, obj(2, at(6)), obj(3), obj(1, at(7), at(9)), obj(6), obj(4, at(10)), obj(5), obj(7))
}

func TestP3_2_FieldsOfOneObjectGoAheadOfTheirFields(t *testing.T) {
	// A tree: 0 has 3 and 6, 3 has 9 and 10, 6 has 11 and 12.
	a := build(t, 30, obj(1, at(3), at(6)), obj(1, at(9), at(10)), obj(1, at(11), at(12)), obj(4), obj(5), obj(6), obj(7))
	b, words := live(t, a, at(0))
	wants(t, words, at(0))
	same(t, b, 30, obj(1, at(3), at(6)), obj(1, at(9), at(10)), obj(1, at(11), at(12)), obj(4), obj(5), obj(6), obj(7))
}

func TestP3_2_NoRoots(t *testing.T) {
	a := build(t, 9, obj(1, at(0), number(5)))
	for _, roots := range [][]api.Word{nil, {}} {
		b, words := live(t, a, roots...)
		wants(t, words)
		same(t, b, 9)
	}
	b, words := live(t, build(t, 5))
	wants(t, words)
	same(t, b, 5)
}

func TestP3_2_TheSameRootTwice(t *testing.T) {
	a := build(t, 9, obj(1, number(4)), obj(2), obj(3, at(2)))
	b, words := live(t, a, at(3), at(3), at(0), at(2), at(3), at(0))
	wants(t, words, at(0), at(0), at(2), at(4), at(0), at(2))
	same(t, b, 9, obj(3, at(4)), obj(1, number(4)), obj(2))
}

func TestP3_2_TheSameFieldTwice(t *testing.T) {
	a := build(t, 12, obj(1, number(4)), obj(2, at(0), at(6), at(0)), obj(3, at(0), at(6)))
	b, words := live(t, a, at(2))
	wants(t, words, at(0))
	same(t, b, 12, obj(2, at(4), at(6), at(4)), obj(1, number(4)), obj(3, at(4), at(6)))
}

func TestP3_2_OtherWordsAreThemselvesAsRoots(t *testing.T) {
	a := build(t, 8, obj(1, number(1), number(2)), obj(2))
	b, words := live(t, a, inertWords()...)
	wants(t, words, inertWords()...)
	same(t, b, 8)
	for _, w := range inertWords() {
		b, words := live(t, a, w, at(3), w)
		wants(t, words, w, at(0), w)
		same(t, b, 8, obj(2))
	}
}

func TestP3_2_OtherWordsAreThemselvesAsFields(t *testing.T) {
	inert := inertWords()
	a := build(t, 60, obj(2), obj(1, inert...))
	b, words := live(t, a, at(1), at(0))
	wants(t, words, at(0), at(1+len(inert)))
	same(t, b, 60, obj(1, inert...), obj(2))
}

func TestP3_2_AnAddressWithoutAnObjectIsUnitAsRoot(t *testing.T) {
	a := build(t, 4, obj(1, number(1), number(2), number(3)))
	for _, w := range goneWords(4) {
		b, words := live(t, a, w)
		wants(t, words, unit)
		same(t, b, 4)
		b, words = live(t, a, w, at(0), w)
		wants(t, words, unit, at(0), unit)
		same(t, b, 4, obj(1, number(1), number(2), number(3)))
	}
	b, words := live(t, build(t, 4), at(0), at(3), 1<<43|1)
	wants(t, words, unit, unit, 1<<43|1)
	same(t, b, 4)
}

func TestP3_2_AnAddressWithoutAnObjectIsUnitAsField(t *testing.T) {
	for _, w := range goneWords(4) {
		a := build(t, 4, obj(1, w, at(0), w))
		b, words := live(t, a, at(0))
		wants(t, words, at(0))
		same(t, b, 4, obj(1, unit, at(0), unit))
	}
}

func TestP3_2_AnAddressWithoutAnObjectStaysNoneWhereTheNewArenaHasOne(t *testing.T) {
	// In the new arena, an object begins at 1, and one at 3; in the old one there is none at 1 nor at 3.
	a := build(t, 20, obj(4, number(1), number(2), number(3)), obj(5), obj(1, at(1)), obj(2, at(3)))
	b, words := live(t, a, at(4), at(5), at(7), at(1), at(3), at(6))
	wants(t, words, at(0), at(1), at(3), unit, unit, unit)
	same(t, b, 20, obj(5), obj(1, unit), obj(2, unit))
}

func TestP3_2_ObjectsThatAreTheirOwnFields(t *testing.T) {
	a := build(t, 12, obj(9), obj(1, at(1), number(7), at(1)), obj(2, at(5)))
	b, words := live(t, a, at(5), at(1))
	wants(t, words, at(0), at(2))
	same(t, b, 12, obj(2, at(0)), obj(1, at(2), number(7), at(2)))
}

func TestP3_2_ObjectsThatAreFieldsOfEachOther(t *testing.T) {
	a := build(t, 20, obj(9), obj(1, at(4), number(7)), obj(2, number(8), at(1)), obj(3, at(9)), obj(4, at(7)))
	b, words := live(t, a, at(4))
	wants(t, words, at(0))
	same(t, b, 20, obj(2, number(8), at(3)), obj(1, at(0), number(7)))
	b, words = live(t, a, at(9), at(7), at(1))
	wants(t, words, at(0), at(2), at(4))
	same(t, b, 20, obj(4, at(2)), obj(3, at(0)), obj(1, at(7), number(7)), obj(2, number(8), at(4)))
}

func TestP3_2_AnArenaThatIsJustFull(t *testing.T) {
	a := build(t, 6, obj(1, at(3), at(0)), obj(2, at(0), at(3)))
	if _, e := a.Alloc(1); e != api.ErrRoom {
		t.Fatal(e)
	}
	b, words := live(t, a, at(3))
	wants(t, words, at(0))
	same(t, b, 6, obj(2, at(3), at(0)), obj(1, at(0), at(3)))
	if _, e := b.Alloc(1); e != api.ErrRoom {
		t.Error(e)
	}
	one := build(t, 1, obj(8))
	b, words = live(t, one, at(0), at(0))
	wants(t, words, at(0), at(0))
	same(t, b, 1, obj(8))
}

func TestP3_2_TheGreatestArenaInOneChain(t *testing.T) {
	objects := make([]object, mostWords/2)
	for i := range objects {
		objects[i] = obj(1, at(2*i-2))
	}
	objects[0].fields[0] = api.Nil
	a := build(t, mostWords, objects...)
	b, words := live(t, a, at(mostWords-2))
	wants(t, words, at(0))
	for i := range objects {
		objects[i] = obj(1, at(2*i+2))
	}
	objects[len(objects)-1].fields[0] = api.Nil
	same(t, b, mostWords, objects...)
}

func TestP3_2_TheNilArena(t *testing.T) {
	for _, roots := range [][]api.Word{nil, {}, {at(0)}, {at(5), at(5), api.Nil, number(3), 1<<43 | 1, at(1<<40 - 1)}} {
		given := slices.Clone(roots)
		b, words := move.Live(nil, roots...)
		if b != nil {
			t.Error(roots, b)
		}
		wants(t, words, given...)
		for i := range words {
			words[i] = number(77)
		}
		wants(t, roots, given...)
	}
}

func TestP3_2_AnArenaThatNewDidNotMake(t *testing.T) {
	a := new(arena.Arena)
	b, words := move.Live(a, at(0), number(3))
	wants(t, words, unit, number(3))
	if b.Size() != 0 || b.Used() != 0 || move.Reach(a, at(0)) != 0 {
		t.Error(b.Size(), b.Used(), move.Reach(a, at(0)))
	}
}

func TestP3_2_RootsAreNotChangedAndNotKept(t *testing.T) {
	a := build(t, 12, obj(1, number(1)), obj(2, at(0)))
	space := []api.Word{at(2), at(0), at(99), at(2), at(0)}
	b, words := move.Live(a, space[:3]...)
	wants(t, space, at(2), at(0), at(99), at(2), at(0))
	clear(space)
	wants(t, words, at(0), at(2), unit)
	words = append(words, number(5))
	words[0] = number(6)
	wants(t, space, 0, 0, 0, 0, 0)
	same(t, b, 12, obj(2, at(2)), obj(1, number(1)))
}

func TestP3_2_TheTwoArenasAreApart(t *testing.T) {
	a := build(t, 12, obj(1, number(1)), obj(2, at(0)))
	b, _ := live(t, a, at(2))
	c, _ := live(t, a, at(2))
	b.Set(at(0), 0, number(8))
	b.Alloc(5, number(9))
	same(t, a, 12, obj(1, number(1)), obj(2, at(0)))
	same(t, c, 12, obj(2, at(2)), obj(1, number(1)))
	a.Set(at(0), 0, number(7))
	a.Alloc(6)
	same(t, b, 12, obj(2, number(8)), obj(1, number(1)), obj(5, number(9)))
	same(t, c, 12, obj(2, at(2)), obj(1, number(1)))
}

func TestP3_2_TheNewArenaHasTheRoomThatWasLetGo(t *testing.T) {
	a := build(t, 10, obj(1, number(1), number(2)), obj(2, number(3)), obj(3, number(4), number(5), number(6), number(7)))
	b, words := live(t, a, at(3))
	wants(t, words, at(0))
	if w, e := b.Alloc(4, make([]api.Word, 8)...); e != api.ErrRoom {
		t.Error(uint64(w), e)
	}
	if w, e := b.Alloc(4, make([]api.Word, 7)...); w != at(2) || e != api.OK {
		t.Error(uint64(w), e)
	}
}

// withoutObject is what becomes of a word that is no object's address.
func withoutObject(w api.Word) api.Word {
	if w%8 == 1 && w/8 < 1<<40 {
		return unit
	}
	return w
}

// inOrder are the addresses of the objects that are reached, in the order in which the document has them allocated.
func inOrder(objects map[api.Word]object, roots []api.Word) []api.Word {
	var order []api.Word
	look := func(words []api.Word) {
		for _, w := range words {
			if _, ok := objects[w]; ok && !slices.Contains(order, w) {
				order = append(order, w)
			}
		}
	}
	look(roots)
	for i := 0; i < len(order); i++ {
		look(objects[order[i]].fields)
	}
	return order
}

// expected is what the document says of Live, worked out in two goes: first where each object goes, and then its fields.
func expected(objects map[api.Word]object, roots []api.Word) ([]object, []api.Word) {
	order, place, next := inOrder(objects, roots), map[api.Word]api.Word{}, 0
	for _, w := range order {
		place[w] = at(next)
		next += wordsOf(objects[w])
	}
	translate := func(words []api.Word) []api.Word {
		out := make([]api.Word, len(words))
		for i, w := range words {
			if moved, ok := place[w]; ok {
				out[i] = moved
			} else {
				out[i] = withoutObject(w)
			}
		}
		return out
	}
	var made []object
	for _, w := range order {
		made = append(made, object{objects[w].kind, translate(objects[w].fields)})
	}
	return made, translate(roots)
}

// anyWord is often the address of an object.
func anyWord(r *rand.Rand, places []api.Word, size int) api.Word {
	switch {
	case r.Intn(8) == 0:
		return api.Word(r.Uint64())
	case r.Intn(8) == 0:
		return inertWords()[r.Intn(len(inertWords()))]
	case r.Intn(8) == 0:
		return at(r.Intn(size + 2))
	case r.Intn(3) == 0 || len(places) == 0:
		return number(r.Intn(9) - 4)
	}
	return places[r.Intn(len(places))]
}

// anyArena is one whose objects have each other as fields, in any way.
func anyArena(t *testing.T, r *rand.Rand) (*arena.Arena, []api.Word) {
	t.Helper()
	a := build(t, 1+r.Intn(120))
	var places []api.Word
	for range r.Intn(40) {
		if w, e := a.Alloc(1+r.Intn(mostKind), make([]api.Word, r.Intn(5))...); e == api.OK {
			places = append(places, w)
		}
	}
	for _, w := range places {
		for i := range a.Len(w) {
			a.Set(w, i, anyWord(r, places, a.Size()))
		}
	}
	return a, places
}

func anyRoots(r *rand.Rand, places []api.Word, size int) []api.Word {
	roots := make([]api.Word, r.Intn(6))
	for i := range roots {
		roots[i] = anyWord(r, places, size)
	}
	return roots
}

func TestP3_2_AnyArena(t *testing.T) {
	r := rand.New(rand.NewSource(3))
	for range 5000 {
		a, places := anyArena(t, r)
		roots := anyRoots(r, places, a.Size())
		made, wanted := expected(all(a), roots)
		b, words := live(t, a, roots...)
		wants(t, words, wanted...)
		same(t, b, a.Size(), made...)
		if t.Failed() {
			t.Fatal(all(a), roots)
		}
	}
}

// pairing walks two arenas side by side, and notes which address of one goes with which of the other.
type pairing struct {
	a, b     *arena.Arena
	to, back map[api.Word]api.Word
}

// goTogether tells whether two words mean the same in their arenas.
func (p *pairing) goTogether(t *testing.T, x, y api.Word) {
	t.Helper()
	if p.a.Kind(x) == 0 {
		if y != withoutObject(x) || p.b.Kind(y) != 0 {
			t.Fatal(uint64(x), uint64(y))
		}
		return
	}
	seen, ok := p.to[x]
	seenBack, okBack := p.back[y]
	if ok != okBack || ok && (seen != y || seenBack != x) {
		t.Fatal("not the same object", uint64(x), uint64(y), uint64(seen), uint64(seenBack))
	}
	if ok {
		return
	}
	p.to[x], p.back[y] = y, x
	if p.a.Kind(x) != p.b.Kind(y) || p.a.Len(x) != p.b.Len(y) {
		t.Fatal(uint64(x), uint64(y), p.a.Kind(x), p.b.Kind(y), p.a.Len(x), p.b.Len(y))
	}
	for i := range p.a.Len(x) {
		v, _ := p.a.Get(x, i)
		w, _ := p.b.Get(y, i)
		p.goTogether(t, v, w)
	}
}

func TestP3_3_WhatIsReachedIsTheSame(t *testing.T) {
	r := rand.New(rand.NewSource(33))
	for range 2000 {
		a, places := anyArena(t, r)
		roots := anyRoots(r, places, a.Size())
		b, words := live(t, a, roots...)
		p := &pairing{a, b, map[api.Word]api.Word{}, map[api.Word]api.Word{}}
		used := 0
		for i := range roots {
			p.goTogether(t, roots[i], words[i])
		}
		for _, y := range p.to {
			used += 1 + b.Len(y)
		}
		if b.Used() != used || len(all(b)) != len(p.to) {
			t.Fatal(b.Used(), used, len(all(b)), len(p.to))
		}
	}
}

func TestP3_3_TwiceIsAsOnce(t *testing.T) {
	a := build(t, 30, obj(9, at(0)), obj(1, at(5), at(8)), obj(2, at(99), at(2)), obj(3, at(8), 1<<43|1, number(-5)), obj(4))
	roots := []api.Word{at(8), at(2), at(7), at(2), number(6)}
	b, once := live(t, a, roots...)
	c, twice := live(t, b, once...)
	wants(t, once, at(0), at(4), unit, at(4), number(6))
	wants(t, twice, once...)
	if !reflect.DeepEqual(all(b), all(c)) || b.Used() != c.Used() {
		t.Error(all(b), all(c))
	}
}

func TestP3_3_TwiceIsAsOnceInAnyArena(t *testing.T) {
	r := rand.New(rand.NewSource(333))
	for range 2000 {
		a, places := anyArena(t, r)
		b, once := live(t, a, anyRoots(r, places, a.Size())...)
		c, twice := live(t, b, once...)
		wants(t, twice, once...)
		if !reflect.DeepEqual(all(b), all(c)) || b.Used() != c.Used() || t.Failed() {
			t.Fatal(all(a), all(b), all(c), once, twice)
		}
	}
}

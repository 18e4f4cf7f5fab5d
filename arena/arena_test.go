package arena_test

import (
	"math"
	"math/rand"
	"slices"
	"testing"

	"eddywheel/api"
	"eddywheel/arena"
)

// Written out, so that a limit that moves is seen.
const (
	mostWords  = 1 << 16
	mostFields = 255
	mostKind   = 9
)

// address encodes by the document's words, not by package word.
func address(n int) api.Word { return api.Word(n)*8 + 1 }

func number(n int) api.Word { return api.Word(uint64(n) * 8) }

// numbers are so many words that differ from one another.
func numbers(count, from int) []api.Word {
	l := make([]api.Word, count)
	for i := range l {
		l[i] = number(from + i)
	}
	return l
}

func mustNew(t *testing.T, size int) *arena.Arena {
	t.Helper()
	a, e := arena.New(size)
	if a == nil || e != api.OK {
		t.Fatal(size, a, e)
	}
	return a
}

func mustAlloc(t *testing.T, a *arena.Arena, kind int, fields ...api.Word) api.Word {
	t.Helper()
	before := a.Used()
	w, e := a.Alloc(kind, fields...)
	if w != address(before) || e != api.OK || a.Used() != before+1+len(fields) {
		t.Fatal(kind, len(fields), before, uint64(w), e, a.Used())
	}
	return w
}

func refusesAlloc(t *testing.T, a *arena.Arena, want api.Errno, kind int, fields ...api.Word) {
	t.Helper()
	used, size := a.Used(), a.Size()
	if w, e := a.Alloc(kind, fields...); w != 0 || e != want {
		t.Error(kind, len(fields), uint64(w), e)
	}
	if a.Used() != used || a.Size() != size {
		t.Error(kind, len(fields), used, a.Used(), size, a.Size())
	}
}

// holds tells whether an object is what it should be, and has nothing more.
func holds(t *testing.T, a *arena.Arena, w api.Word, kind int, fields []api.Word) {
	t.Helper()
	if a.Kind(w) != kind || a.Len(w) != len(fields) {
		t.Error(uint64(w), a.Kind(w), kind, a.Len(w), len(fields))
	}
	for i, want := range fields {
		if x, e := a.Get(w, i); x != want || e != api.OK {
			t.Error(uint64(w), i, uint64(x), uint64(want), e)
		}
	}
	for _, i := range []int{math.MinInt, -256, -2, -1, len(fields), len(fields) + 1, 255, 256, mostWords, 1 << 32, math.MaxInt} {
		if i >= 0 && i < len(fields) {
			continue
		}
		if x, e := a.Get(w, i); x != 0 || e != api.ErrArg {
			t.Error(uint64(w), i, uint64(x), e)
		}
		if e := a.Set(w, i, number(1)); e != api.ErrArg {
			t.Error(uint64(w), i, e)
		}
	}
}

// isNone tells whether a word is taken for no object's address.
func isNone(t *testing.T, a *arena.Arena, w api.Word) {
	t.Helper()
	if a.Kind(w) != 0 || a.Len(w) != 0 {
		t.Error(uint64(w), a.Kind(w), a.Len(w))
	}
	for _, i := range []int{math.MinInt, -1, 0, 1, 2, 254, 255, math.MaxInt} {
		if x, e := a.Get(w, i); x != 0 || e != api.ErrNone {
			t.Error(uint64(w), i, uint64(x), e)
		}
		if e := a.Set(w, i, number(3)); e != api.ErrNone {
			t.Error(uint64(w), i, e)
		}
	}
}

// strangeWords are fields that an arena must not take for anything of its own.
func strangeWords() []api.Word {
	return []api.Word{0, 1, 2, 3, 4, 5, 6, 7, 8, 9, 10, 18, 26, 255, 256, 1<<11 + 1, address(0), address(1), address(2), address(5), address(mostWords), 1 << 43, 1<<43 + 1, 1<<63 | 1, 1<<64 - 8, 1<<64 - 7, 1<<64 - 1}
}

func TestP2_1_SizesThatMayNotBe(t *testing.T) {
	for _, size := range []int{0, -1, -2, mostWords + 1, mostWords + 2, 2 * mostWords, 1 << 32, 1<<32 + 4, math.MaxInt, math.MinInt, -mostWords, 1 - mostWords} {
		if a, e := arena.New(size); a != nil || e != api.ErrArg {
			t.Error(size, a, e)
		}
	}
}

func TestP2_1_ANewArenaIsUnused(t *testing.T) {
	for _, size := range []int{1, 2, 3, 4, 12, 100, 255, 256, 257, 1 << 15, mostWords - 1, mostWords} {
		a := mustNew(t, size)
		if a.Size() != size || a.Used() != 0 {
			t.Error(size, a.Size(), a.Used())
		}
		for n := range min(size, 20) {
			isNone(t, a, address(n))
		}
		isNone(t, a, address(size-1))
		isNone(t, a, address(size))
	}
}

func TestP2_1_UsedCountsWords(t *testing.T) {
	a := mustNew(t, 300)
	used := 0
	for _, count := range []int{0, 1, 2, 0, 17, 255} {
		mustAlloc(t, a, 1, numbers(count, 0)...)
		used += count + 1
		if a.Used() != used || a.Size() != 300 {
			t.Error(count, a.Used(), used, a.Size())
		}
	}
}

func TestP2_1_ArenasAreApart(t *testing.T) {
	a, b := mustNew(t, 8), mustNew(t, 8)
	w := mustAlloc(t, a, 1, number(5), number(6))
	if b.Used() != 0 {
		t.Error(b.Used())
	}
	isNone(t, b, w)
	mustAlloc(t, b, 2, number(7))
	if e := b.Set(w, 0, number(8)); e != api.OK {
		t.Error(e)
	}
	holds(t, a, w, 1, []api.Word{number(5), number(6)})
	holds(t, b, w, 2, []api.Word{number(8)})
}

func TestP2_2_TheExample(t *testing.T) {
	a := mustNew(t, 4)
	if w, e := a.Alloc(1, api.Nil, api.True); w != address(0) || e != api.OK {
		t.Error(uint64(w), e)
	}
	if w, e := a.Alloc(2); w != address(3) || e != api.OK {
		t.Error(uint64(w), e)
	}
	refusesAlloc(t, a, api.ErrRoom, 1)
	refusesAlloc(t, a, api.ErrRoom, 2, api.Nil)
	holds(t, a, address(0), 1, []api.Word{api.Nil, api.True})
	holds(t, a, address(3), 2, nil)
}

func TestP2_2_Kinds(t *testing.T) {
	a := mustNew(t, 100)
	for kind := 1; kind <= mostKind; kind++ {
		w := mustAlloc(t, a, kind, number(kind), api.Unit)
		holds(t, a, w, kind, []api.Word{number(kind), api.Unit})
	}
	for _, kind := range []int{0, -1, -9, 10, 11, 255, 256, 257, 265, 1<<8 + 1, 1 << 32, 1<<32 + 1, 1<<61 + 1, math.MaxInt, math.MinInt, math.MinInt + 1} {
		refusesAlloc(t, a, api.ErrArg, kind)
		refusesAlloc(t, a, api.ErrArg, kind, api.Nil, api.True)
	}
}

func TestP2_2_NumbersOfFields(t *testing.T) {
	a := mustNew(t, mostWords)
	for _, count := range []int{0, 1, 2, 3, 127, 128, 254, mostFields} {
		fields := numbers(count, 10*count)
		holds(t, a, mustAlloc(t, a, 4, fields...), 4, fields)
	}
	for _, count := range []int{mostFields + 1, mostFields + 2, 511, 512, 513, mostWords - 1, mostWords, 2 * mostWords} {
		refusesAlloc(t, a, api.ErrArg, 4, make([]api.Word, count)...)
	}
}

func TestP2_2_NilAndEmptyFieldsAreAlike(t *testing.T) {
	a := mustNew(t, 2)
	holds(t, a, mustAlloc(t, a, 1, nil...), 1, nil)
	holds(t, a, mustAlloc(t, a, 1, []api.Word{}...), 1, nil)
	refusesAlloc(t, a, api.ErrRoom, 1, nil...)
}

func TestP2_2_JustFullAndOneTooMany(t *testing.T) {
	for count := range mostFields + 1 {
		for _, before := range []int{0, 1, 7} {
			size := before + 1 + count
			a := mustNew(t, size)
			for range before {
				mustAlloc(t, a, 9)
			}
			if count < mostFields {
				refusesAlloc(t, a, api.ErrRoom, 3, numbers(count+1, 0)...)
			}
			fields := numbers(count, 100)
			w := mustAlloc(t, a, 3, fields...)
			holds(t, a, w, 3, fields)
			if a.Used() != size || a.Size() != size {
				t.Error(count, before, a.Used(), a.Size())
			}
			refusesAlloc(t, a, api.ErrRoom, 1)
			refusesAlloc(t, a, api.ErrRoom, 3, numbers(mostFields, 0)...)
			isNone(t, a, address(size))
		}
	}
}

func TestP2_2_TheGreatestArenaFills(t *testing.T) {
	a := mustNew(t, mostWords)
	for range mostWords / 256 {
		mustAlloc(t, a, 9, numbers(mostFields, a.Used())...)
	}
	if a.Used() != mostWords {
		t.Error(a.Used())
	}
	refusesAlloc(t, a, api.ErrRoom, 1)
	for at := 0; at < mostWords; at += 256 {
		holds(t, a, address(at), 9, numbers(mostFields, at))
		isNone(t, a, address(at+1))
		isNone(t, a, address(at+255))
	}
}

func TestP2_2_WordsOfTheSmallestObjects(t *testing.T) {
	a := mustNew(t, mostWords)
	for n := range mostWords {
		if w, e := a.Alloc(1 + n%mostKind); w != address(n) || e != api.OK {
			t.Fatal(n, uint64(w), e)
		}
	}
	refusesAlloc(t, a, api.ErrRoom, 1)
	for n := range mostWords {
		if a.Kind(address(n)) != 1+n%mostKind || a.Len(address(n)) != 0 {
			t.Fatal(n, a.Kind(address(n)), a.Len(address(n)))
		}
	}
}

func TestP2_2_ArgIsToldBeforeRoom(t *testing.T) {
	a := mustNew(t, 1)
	refusesAlloc(t, a, api.ErrArg, 0, api.Nil)
	refusesAlloc(t, a, api.ErrArg, mostKind+1, numbers(20, 0)...)
	refusesAlloc(t, a, api.ErrArg, 1, numbers(mostFields+1, 0)...)
	refusesAlloc(t, a, api.ErrRoom, 1, numbers(mostFields, 0)...)
	mustAlloc(t, a, 1)
	refusesAlloc(t, a, api.ErrArg, 0)
	refusesAlloc(t, a, api.ErrArg, 1, numbers(mostFields+1, 0)...)
	refusesAlloc(t, a, api.ErrRoom, mostKind)
}

func TestP2_2_ARefusedAllocChangesNothing(t *testing.T) {
	a := mustNew(t, 6)
	w := mustAlloc(t, a, 5, number(1), number(2))
	refusesAlloc(t, a, api.ErrArg, 0, number(8), number(9))
	refusesAlloc(t, a, api.ErrRoom, 2, number(8), number(9), number(10))
	holds(t, a, w, 5, numbers(2, 1))
	isNone(t, a, address(3))
	isNone(t, a, address(4))
	holds(t, a, mustAlloc(t, a, 6, number(3), number(4)), 6, numbers(2, 3))
	holds(t, a, w, 5, numbers(2, 1))
}

func TestP2_2_FieldsMayBeAnyWords(t *testing.T) {
	a := mustNew(t, 100)
	words := strangeWords()
	holds(t, a, mustAlloc(t, a, 7, words...), 7, words)
}

func TestP2_2_FieldsAreCopied(t *testing.T) {
	a := mustNew(t, 20)
	behind := numbers(6, 50)
	fields := behind[1:3]
	w := mustAlloc(t, a, 1, fields...)
	if !slices.Equal(behind, numbers(6, 50)) {
		t.Error(behind)
	}
	clear(behind)
	holds(t, a, w, 1, numbers(2, 51))
	if e := a.Set(w, 0, number(99)); e != api.OK {
		t.Error(e)
	}
	mustAlloc(t, a, 1, number(98))
	if !slices.Equal(behind, make([]api.Word, 6)) {
		t.Error(behind)
	}
}

func TestP2_2_TheSameFieldsMakeTwoObjects(t *testing.T) {
	a := mustNew(t, 20)
	fields := numbers(3, 1)
	v, w := mustAlloc(t, a, 1, fields...), mustAlloc(t, a, 1, fields...)
	if e := a.Set(v, 1, api.True); e != api.OK {
		t.Error(e)
	}
	holds(t, a, v, 1, []api.Word{number(1), api.True, number(3)})
	holds(t, a, w, 1, fields)
}

func TestP2_3_WordsThatAreNoAddress(t *testing.T) {
	a := mustNew(t, 40)
	v := mustAlloc(t, a, 1, number(1), number(2))
	w := mustAlloc(t, a, 2)
	x := mustAlloc(t, a, 3, address(0), address(3), address(1))
	// The payloads of v, w and x under all other tags, within objects, and beyond them.
	for _, n := range []int{0, 3, 4} {
		for tag := range api.Word(8) {
			if tag != 1 {
				isNone(t, a, api.Word(n)*8+tag)
			}
		}
	}
	for _, n := range []int{1, 2, 5, 6, 7, 8, 9, 39, 40, 41, 255, mostWords - 1, mostWords, 1 << 32, 1<<32 + 3, 1<<40 - 1} {
		isNone(t, a, address(n))
	}
	// No valid words: payloads that are too great, though their lowest bits are those of an address.
	for _, n := range []uint64{1 << 40, 1<<40 + 3, 1<<41 + 4, 1 << 60, 1<<60 + 3, 1<<61 - 1} {
		isNone(t, a, api.Word(n*8+1))
	}
	for _, mark := range []api.Word{api.Nil, api.False, api.True, api.Unit} {
		isNone(t, a, mark)
	}
	holds(t, a, v, 1, numbers(2, 1))
	holds(t, a, w, 2, nil)
	holds(t, a, x, 3, []api.Word{address(0), address(3), address(1)})
}

func TestP2_3_FieldsThatLookLikeObjects(t *testing.T) {
	words := strangeWords()
	a := mustNew(t, 2+len(words))
	w := mustAlloc(t, a, 6, words...)
	for n := 1; n <= len(words)+1; n++ {
		isNone(t, a, address(n))
	}
	for i := range words {
		for _, x := range words {
			if e := a.Set(w, i, x); e != api.OK {
				t.Fatal(i, e)
			}
			if a.Kind(address(1+i)) != 0 || a.Len(address(1+i)) != 0 {
				t.Fatal(i, uint64(x), a.Kind(address(1+i)))
			}
		}
	}
}

func TestP2_3_SetAndGetEachField(t *testing.T) {
	for _, count := range []int{1, 2, 3, 254, mostFields} {
		a := mustNew(t, 300)
		mustAlloc(t, a, 8, number(-1))
		fields := numbers(count, 7)
		w := mustAlloc(t, a, 2, fields...)
		mustAlloc(t, a, 8, number(-2))
		for _, i := range []int{0, count / 2, count - 1} {
			for _, x := range strangeWords() {
				if e := a.Set(w, i, x); e != api.OK {
					t.Error(count, i, e)
				}
				fields[i] = x
				holds(t, a, w, 2, fields)
			}
		}
		holds(t, a, address(0), 8, []api.Word{number(-1)})
		holds(t, a, address(3+count), 8, []api.Word{number(-2)})
	}
}

func TestP2_3_NoFieldsOfAnObjectWithoutFields(t *testing.T) {
	a := mustNew(t, 8)
	w := mustAlloc(t, a, 1)
	mustAlloc(t, a, 1, number(5))
	for _, i := range []int{-1, 0, 1, 2} {
		if x, e := a.Get(w, i); x != 0 || e != api.ErrArg {
			t.Error(i, uint64(x), e)
		}
		if e := a.Set(w, i, number(6)); e != api.ErrArg {
			t.Error(i, e)
		}
	}
	holds(t, a, address(1), 1, []api.Word{number(5)})
}

func TestP2_3_NoneIsToldBeforeArg(t *testing.T) {
	a := mustNew(t, 8)
	mustAlloc(t, a, 1, number(5))
	for _, w := range []api.Word{0, address(1), address(2), address(8), api.Unit, 1<<43 + 1} {
		for _, i := range []int{-1, 0, 1, 2} {
			if _, e := a.Get(w, i); e != api.ErrNone {
				t.Error(uint64(w), i, e)
			}
			if e := a.Set(w, i, 0); e != api.ErrNone {
				t.Error(uint64(w), i, e)
			}
		}
	}
}

func TestP2_3_ReadingChangesNothing(t *testing.T) {
	a := mustNew(t, 8)
	w := mustAlloc(t, a, 4, number(5), number(6))
	for range 3 {
		holds(t, a, w, 4, numbers(2, 5))
		isNone(t, a, address(1))
		if a.Used() != 3 || a.Size() != 8 {
			t.Error(a.Used(), a.Size())
		}
	}
}

func TestP2_3_AnArenaThatIsNilOrNotMadeByNew(t *testing.T) {
	for _, a := range []*arena.Arena{nil, new(arena.Arena)} {
		if a.Size() != 0 || a.Used() != 0 {
			t.Error(a.Size(), a.Used())
		}
		for _, kind := range []int{math.MinInt, -1, 0, 10, math.MaxInt} {
			refusesAlloc(t, a, api.ErrArg, kind)
		}
		for kind := 1; kind <= mostKind; kind++ {
			refusesAlloc(t, a, api.ErrRoom, kind)
			refusesAlloc(t, a, api.ErrRoom, kind, numbers(mostFields, 0)...)
			refusesAlloc(t, a, api.ErrArg, kind, numbers(mostFields+1, 0)...)
		}
		for _, w := range append(strangeWords(), api.Nil, api.False, api.True, api.Unit) {
			isNone(t, a, w)
		}
	}
}

type object struct {
	kind   int
	fields []api.Word
}

// model is an arena as the document tells it: objects by where they begin.
type model struct {
	size, used int
	objects    map[int]object
	starts     []int
}

func (m *model) alloc(kind int, fields []api.Word) (api.Word, api.Errno) {
	switch {
	case kind < 1 || kind > mostKind || len(fields) > mostFields:
		return 0, api.ErrArg
	case m.size-m.used <= len(fields):
		return 0, api.ErrRoom
	}
	at := m.used
	m.objects[at] = object{kind, slices.Clone(fields)}
	m.starts = append(m.starts, at)
	m.used += 1 + len(fields)
	return address(at), api.OK
}

func (m *model) set(at, i int, x api.Word) api.Errno {
	o, ok := m.objects[at]
	switch {
	case !ok:
		return api.ErrNone
	case i < 0 || i >= len(o.fields):
		return api.ErrArg
	}
	o.fields[i] = x
	return api.OK
}

// agrees holds all places of an arena against the model.
func (m *model) agrees(t *testing.T, a *arena.Arena) {
	t.Helper()
	if a.Used() != m.used || a.Size() != m.size {
		t.Fatal(a.Used(), m.used, a.Size(), m.size)
	}
	for at := range m.size + 2 {
		o := m.objects[at]
		if a.Kind(address(at)) != o.kind || a.Len(address(at)) != len(o.fields) {
			t.Fatal(at, a.Kind(address(at)), o.kind, a.Len(address(at)), len(o.fields))
		}
		for i, want := range o.fields {
			if x, e := a.Get(address(at), i); x != want || e != api.OK {
				t.Fatal(at, i, uint64(x), uint64(want), e)
			}
		}
	}
}

func TestP2_4_ObjectsKeepTheirFieldsAndDoNotOverlap(t *testing.T) {
	r := rand.New(rand.NewSource(2))
	for round := range 300 {
		size := 1 + r.Intn(400)
		a, m := mustNew(t, size), &model{size: size, objects: map[int]object{}}
		for range 60 {
			step(t, r, a, m)
			if round%10 == 0 {
				m.agrees(t, a)
			}
		}
		m.agrees(t, a)
	}
}

// step does one thing to an arena and to its model.
func step(t *testing.T, r *rand.Rand, a *arena.Arena, m *model) {
	t.Helper()
	if len(m.starts) == 0 || r.Intn(3) == 0 {
		kind, fields := r.Intn(mostKind+2), make([]api.Word, r.Intn(12))
		if r.Intn(10) == 0 {
			fields = make([]api.Word, 250+r.Intn(10))
		}
		for i := range fields {
			fields[i] = strange(r)
		}
		want, wantError := m.alloc(kind, fields)
		if w, e := a.Alloc(kind, fields...); w != want || e != wantError {
			t.Fatal(kind, len(fields), uint64(w), uint64(want), e, wantError)
		}
		return
	}
	at := m.starts[r.Intn(len(m.starts))]
	if r.Intn(5) == 0 {
		at = r.Intn(m.size + 2)
	}
	i, x := r.Intn(len(m.objects[at].fields)+3)-1, strange(r)
	want := m.set(at, i, x)
	if e := a.Set(address(at), i, x); e != want {
		t.Fatal(at, i, e, want)
	}
}

// strange is any word at all, often one that looks like something of an arena.
func strange(r *rand.Rand) api.Word {
	switch r.Intn(4) {
	case 0:
		return api.Word(r.Uint64())
	case 1:
		return address(r.Intn(500))
	}
	l := strangeWords()
	return l[r.Intn(len(l))]
}

func TestP2_4_ObjectsStandOneBehindTheOther(t *testing.T) {
	a := mustNew(t, 200)
	next := 0
	for count := range 15 {
		w := mustAlloc(t, a, 1, numbers(count, 0)...)
		if w != address(next) {
			t.Error(count, uint64(w), next)
		}
		next += 1 + a.Len(w)
	}
	if next != a.Used() {
		t.Error(next, a.Used())
	}
}

func TestP2_4_SettingOneFieldLeavesAllOthers(t *testing.T) {
	a := mustNew(t, 30)
	at := []api.Word{mustAlloc(t, a, 1, numbers(4, 0)...), mustAlloc(t, a, 2), mustAlloc(t, a, 3, numbers(4, 10)...), mustAlloc(t, a, 4, numbers(4, 20)...)}
	want := [][]api.Word{numbers(4, 0), nil, numbers(4, 10), numbers(4, 20)}
	for o := range at {
		for i := range want[o] {
			x := number(1000 + 10*o + i)
			if e := a.Set(at[o], i, x); e != api.OK {
				t.Error(o, i, e)
			}
			want[o][i] = x
			for other := range at {
				holds(t, a, at[other], other+1, want[other])
			}
		}
	}
}

package ring_test

import (
	"math"
	"math/rand"
	"slices"
	"testing"

	"eddywheel/api"
	"eddywheel/ring"
)

// Written out, so that a limit that moves is seen.
const mostRing = 256

// manyItems are numbers at the ends of what an int is, and of what fewer bits hold.
func manyItems() []int {
	return []int{math.MinInt, math.MinInt + 1, math.MinInt32 - 1, math.MinInt32, -1 << 16, -256, -2, -1, 0, 1, 2, 255, 256, 1 << 16, math.MaxInt32, math.MaxInt32 + 1, 1 << 32, 1<<32 + 1, math.MaxInt - 1, math.MaxInt}
}

// neverIndices are those at which no queue has an item; their last bits are often those of an index that has one.
func neverIndices() []int {
	return []int{math.MinInt, math.MinInt + 1, math.MinInt32, -1 << 32, -1 << 16, -257, -256, -255, -2, -1, 256, 257, 512, 1 << 16, math.MaxInt32, 1 << 32, 1<<32 + 1, math.MaxInt - 255, math.MaxInt - 1, math.MaxInt}
}

// someMosts are sizes at both ends, beside the powers of 2, and between.
func someMosts() []int {
	return []int{1, 2, 3, 4, 5, 7, 8, 63, 64, 100, 127, 128, 129, 200, 254, 255, 256}
}

func made(t *testing.T, most int) *ring.Ring {
	t.Helper()
	r, e := ring.New(most)
	if r == nil || e != api.OK {
		t.Fatalf("New %d: %v, %d", most, r, e)
	}
	return r
}

func puts(t *testing.T, r *ring.Ring, items ...int) {
	t.Helper()
	for _, x := range items {
		before := r.Len()
		if !r.Put(x) || r.Len() != before+1 {
			t.Fatalf("Put %d: Len %d, before %d", x, r.Len(), before)
		}
	}
}

func takes(t *testing.T, r *ring.Ring, items ...int) {
	t.Helper()
	for _, x := range items {
		before := r.Len()
		if got, ok := r.Take(); got != x || !ok || r.Len() != before-1 {
			t.Fatalf("Take: %d, %t, not %d; Len %d, before %d", got, ok, x, r.Len(), before)
		}
	}
}

// has tells whether these items, and no more, are in a queue, which is asked twice, as they stay.
func has(t *testing.T, r *ring.Ring, items ...int) {
	t.Helper()
	for range 2 {
		if r.Len() != len(items) {
			t.Fatalf("Len %d, not %d", r.Len(), len(items))
		}
		for i, x := range items {
			if got, ok := r.At(i); got != x || !ok {
				t.Fatalf("At %d: %d, %t, not %d", i, got, ok, x)
			}
		}
		noneAt(t, r, len(items), len(items)+1, -len(items)-1)
		noneAt(t, r, neverIndices()...)
	}
}

func noneAt(t *testing.T, r *ring.Ring, indices ...int) {
	t.Helper()
	for _, i := range indices {
		if x, ok := r.At(i); x != 0 || ok {
			t.Fatalf("At %d: %d, %t", i, x, ok)
		}
	}
}

// isEmpty tells whether a queue has no item, however one asks.
func isEmpty(t *testing.T, r *ring.Ring) {
	t.Helper()
	for range 3 {
		if x, ok := r.Take(); x != 0 || ok {
			t.Fatalf("Take: %d, %t", x, ok)
		}
		has(t, r)
	}
	for i := range 2 * mostRing {
		noneAt(t, r, i, -i)
	}
}

// isFull tells whether a queue has these items and takes no other one.
func isFull(t *testing.T, r *ring.Ring, items ...int) {
	t.Helper()
	for _, x := range manyItems() {
		if r.Put(x) {
			t.Fatalf("Put %d: true, of %d", x, len(items))
		}
	}
	has(t, r, items...)
}

// row is so many numbers, each greater than the one before.
func row(first, count int) []int {
	var l []int
	for i := range count {
		l = append(l, first+i)
	}
	return l
}

func TestP15_1_TheExample(t *testing.T) {
	r := made(t, 2)
	for i, want := range []bool{true, true, false} {
		if got := r.Put(5 + i); got != want {
			t.Errorf("Put %d: %t", 5+i, got)
		}
	}
	takes(t, r, 5)
	puts(t, r, 7)
	if x, ok := r.At(1); x != 7 || !ok {
		t.Error(x, ok)
	}
	has(t, r, 6, 7)
}

func TestP15_1_WrongSizes(t *testing.T) {
	for _, most := range []int{math.MinInt, math.MinInt + 1, math.MinInt + 256, math.MinInt32, -1 << 32, -1<<32 + 1, -257, -256, -255, -2, -1, 0, 257, 258, 511, 512, 513, 1 << 16, 1<<16 + 1, math.MaxInt32, 1 << 32, 1<<32 + 1, 1<<32 + 256, math.MaxInt - 1, math.MaxInt} {
		if r, e := ring.New(most); r != nil || e != api.ErrArg {
			t.Errorf("New %d: %v, %d", most, r, e)
		}
	}
}

// Each size is tried, as only some are next to another limit.
func TestP15_1_EachSize(t *testing.T) {
	for most := 1; most <= mostRing; most++ {
		r := made(t, most)
		isEmpty(t, r)
		items := row(1000, most)
		for k, x := range items {
			puts(t, r, x)
			if got, ok := r.At(k); got != x || !ok {
				t.Fatal(most, k, got, ok)
			}
			noneAt(t, r, k+1, -1)
		}
		isFull(t, r, items...)
		for k, x := range items {
			takes(t, r, x)
			noneAt(t, r, most-k-1, -1)
		}
		isEmpty(t, r)
	}
}

func TestP15_1_OneItemOfOne(t *testing.T) {
	r := made(t, 1)
	for range mostRing + 10 {
		for _, x := range manyItems() {
			puts(t, r, x)
			if r.Put(3) || r.Put(0) {
				t.Fatal("two items")
			}
			has(t, r, x)
			takes(t, r, x)
			if x, ok := r.Take(); x != 0 || ok {
				t.Fatal(x, ok)
			}
		}
	}
	isEmpty(t, r)
}

func TestP15_1_TheItemIsAnyNumber(t *testing.T) {
	items := manyItems()
	for _, most := range []int{len(items), len(items) + 1, mostRing} {
		r := made(t, most)
		for range mostRing {
			puts(t, r, items...)
			has(t, r, items...)
			takes(t, r, items...)
		}
		isEmpty(t, r)
	}
	for _, x := range items {
		r := made(t, 3)
		puts(t, r, x)
		has(t, r, x)
		takes(t, r, x)
		isEmpty(t, r)
	}
}

func TestP15_1_ItemsThatAreAlike(t *testing.T) {
	for _, x := range manyItems() {
		for _, most := range someMosts() {
			items := slices.Repeat([]int{x}, most)
			r := made(t, most)
			puts(t, r, items...)
			isFull(t, r, items...)
			takes(t, r, items...)
			isEmpty(t, r)
		}
	}
}

// A place of the queue may have had another item before.
func TestP15_1_ZeroBehindAnotherItem(t *testing.T) {
	for _, most := range someMosts() {
		r := made(t, most)
		for range mostRing + 1 {
			for _, x := range []int{7, 0, -7, 0} {
				puts(t, r, x)
				has(t, r, x)
				takes(t, r, x)
			}
		}
		puts(t, r, slices.Repeat([]int{0}, most)...)
		has(t, r, slices.Repeat([]int{0}, most)...)
	}
}

// The queue is full at each place at which its first item may stand.
func TestP15_1_FullBehindEachNumberOfTakes(t *testing.T) {
	for _, most := range someMosts() {
		r := made(t, most)
		for shift := range 2*mostRing + 3 {
			items := row(10*shift, most)
			puts(t, r, items...)
			if shift%16 == 0 || shift < 4 || shift > 250 && shift < 262 {
				isFull(t, r, items...)
			} else if r.Put(1) {
				t.Fatal(most, shift)
			}
			noneAt(t, r, most, -1)
			if x, ok := r.At(most - 1); x != items[most-1] || !ok {
				t.Fatal(most, shift, x, ok)
			}
			takes(t, r, items...)
			if x, ok := r.Take(); x != 0 || ok {
				t.Fatal(most, shift, x, ok)
			}
			// One more is put and taken, so that the next round begins one place further.
			for range (mostRing + 1 - most%mostRing) % mostRing {
				puts(t, r, -1)
				takes(t, r, -1)
			}
		}
		isEmpty(t, r)
	}
}

func TestP15_1_RoomForOneMoreBehindEachTake(t *testing.T) {
	for _, most := range someMosts() {
		r := made(t, most)
		items := row(0, most)
		puts(t, r, items...)
		for n := range 3*mostRing + 5 {
			if r.Put(-1) {
				t.Fatal(most, n)
			}
			takes(t, r, items[0])
			items = append(items[1:], most+n)
			puts(t, r, most+n)
			if n%32 == 0 || n > 250 && n < 260 {
				isFull(t, r, items...)
			}
		}
		takes(t, r, items...)
		isEmpty(t, r)
	}
}

// As many stay in the queue all the time; all of them are asked for, at each place at which they may stand.
func TestP15_1_AtWhileItemsComeAndGo(t *testing.T) {
	for _, most := range someMosts() {
		for _, count := range []int{1, 2, 3, most - 2, most - 1, most} {
			if count < 1 || count > most {
				continue
			}
			r := made(t, most)
			items := row(5, count)
			puts(t, r, items...)
			for n := range 2 * mostRing {
				i := n * 7 % count
				for _, k := range []int{0, i, count - 1} {
					if x, ok := r.At(k); x != items[k] || !ok {
						t.Fatal(most, count, n, k, x, ok)
					}
				}
				noneAt(t, r, count, -1)
				takes(t, r, items[0])
				noneAt(t, r, count-1, count, -1)
				items = append(items[1:], 5+count+n)
				puts(t, r, 5+count+n)
			}
			has(t, r, items...)
		}
	}
}

func TestP15_1_EmptyAndFullManyTimesOver(t *testing.T) {
	for _, most := range []int{1, 2, 3, 100, 255, 256} {
		r := made(t, most)
		for n := range 80000 / most {
			items := row(n, most)
			puts(t, r, items...)
			if r.Put(n) {
				t.Fatal(most, n)
			}
			takes(t, r, items...)
			if x, ok := r.Take(); x != 0 || ok {
				t.Fatal(most, n, x, ok)
			}
			noneAt(t, r, 0, -1, most-1)
		}
		isEmpty(t, r)
	}
}

func TestP15_1_WhatIsRefusedChangesNothing(t *testing.T) {
	for _, most := range someMosts() {
		r := made(t, most)
		for range 2*mostRing + 1 {
			if x, ok := r.Take(); x != 0 || ok {
				t.Fatal(x, ok)
			}
		}
		items := row(20, most)
		puts(t, r, items...)
		for range 2*mostRing + 1 {
			if r.Put(9) {
				t.Fatal(most)
			}
		}
		isFull(t, r, items...)
		takes(t, r, items...)
		isEmpty(t, r)
		puts(t, r, 4)
		has(t, r, 4)
	}
}

func TestP15_1_QueuesAreApart(t *testing.T) {
	a, b, c := made(t, 2), made(t, 2), made(t, 3)
	puts(t, a, 1, 2)
	isEmpty(t, b)
	puts(t, b, 3)
	puts(t, c, 4, 5, 6)
	isFull(t, a, 1, 2)
	isFull(t, c, 4, 5, 6)
	has(t, b, 3)
	takes(t, b, 3)
	takes(t, c, 4)
	isFull(t, a, 1, 2)
	isEmpty(t, b)
	puts(t, b, 7, 8)
	has(t, c, 5, 6)
	takes(t, a, 1, 2)
	isFull(t, b, 7, 8)
	isEmpty(t, a)
}

func TestP15_1_NilRing(t *testing.T) {
	var r *ring.Ring
	for range 2 {
		isFull(t, r)
		isEmpty(t, r)
	}
}

func TestP15_1_AQueueNotMadeByNewHasNoRoom(t *testing.T) {
	isFull(t, new(ring.Ring))
	isEmpty(t, new(ring.Ring))
}

// The model is a slice, from which what is taken is cut off.
type model struct {
	items []int
	most  int
}

const (
	callPut = iota
	callTake
	callAt
)

type call struct{ what, a int }

// step does a call to the model and to the queue, which must answer alike and have the same number of items then; it tells whether there was something to do.
func (m *model) step(t *testing.T, r *ring.Ring, c call) bool {
	t.Helper()
	var got, want int
	var did, wantDid bool
	switch c.what {
	case callPut:
		did = r.Put(c.a)
		if wantDid = len(m.items) < m.most; wantDid {
			m.items = append(m.items, c.a)
		}
	case callTake:
		got, did = r.Take()
		if wantDid = len(m.items) > 0; wantDid {
			want, m.items = m.items[0], m.items[1:]
		}
	case callAt:
		got, did = r.At(c.a)
		if wantDid = c.a >= 0 && c.a < len(m.items); wantDid {
			want = m.items[c.a]
		}
	}
	if got != want || did != wantDid {
		t.Fatalf("%v of %d: %d, %t, not %d, %t", c, m.most, got, did, want, wantDid)
	}
	if r.Len() != len(m.items) {
		t.Fatalf("%v of %d: Len %d, not %d", c, m.most, r.Len(), len(m.items))
	}
	return did
}

// drain asks for all that is left, and then takes it.
func (m *model) drain(t *testing.T, r *ring.Ring) {
	t.Helper()
	for i := -1; i <= len(m.items); i++ {
		m.step(t, r, call{callAt, i})
	}
	for m.step(t, r, call{callTake, 0}) {
	}
}

// orders calls f with every row of so many numbers below most; the row is the same memory each time.
func orders(count, most int, f func(l []int)) {
	l := make([]int, count)
	var from func(i int)
	from = func(i int) {
		if i == count {
			f(l)
			return
		}
		for l[i] = 0; l[i] < most; l[i]++ {
			from(i + 1)
		}
	}
	from(0)
}

// Every row of up to five of seven calls, for small queues, is held against the model: at once, and behind so many items that the place after the 256th is needed.
func TestP15_1_EveryRowOfCalls(t *testing.T) {
	calls := []call{{callPut, 5}, {callPut, 0}, {callTake, 0}, {callAt, 0}, {callAt, 1}, {callAt, 2}, {callAt, -1}}
	for most := 1; most <= 3; most++ {
		for _, ahead := range []int{0, mostRing - 2} {
			for count := 1; count <= 5; count++ {
				orders(count, len(calls), func(l []int) {
					r, m := made(t, most), &model{most: most}
					for range ahead {
						r.Put(8)
						r.Take()
					}
					for _, k := range l {
						m.step(t, r, calls[k])
					}
					m.drain(t, r)
				})
			}
		}
	}
}

// Every row of ten puts (of two items) and takes is held against the model.
func TestP15_2_EveryRowOfPutsAndTakes(t *testing.T) {
	calls := []call{{callPut, 1}, {callPut, 2}, {callTake, 0}}
	for most := 1; most <= 4; most++ {
		orders(10, len(calls), func(l []int) {
			r, m := made(t, most), &model{most: most}
			for _, k := range l {
				m.step(t, r, calls[k])
			}
			m.drain(t, r)
		})
	}
}

// Many calls in a random order are held against the model, on queues of each size that grow, and that become less.
func TestP15_1_RandomCalls(t *testing.T) {
	filled, emptied := 0, 0
	for most := 1; most <= mostRing; most++ {
		rnd := rand.New(rand.NewSource(int64(most)))
		r, m := made(t, most), &model{most: most}
		for n := range 6000 {
			c := randomCall(rnd, m, n/(2*most+20)%2 == 0)
			if !m.step(t, r, c) && c.what == callPut {
				filled++
			}
			if r.Len() == 0 {
				emptied++
			}
		}
		m.drain(t, r)
	}
	if filled < 10000 || emptied < 10000 {
		t.Error("too seldom full or empty", filled, emptied)
	}
}

// randomCall puts more often than not while the queue grows, and takes more often otherwise.
func randomCall(rnd *rand.Rand, m *model, grows bool) call {
	if rnd.Intn(4) == 0 {
		return call{callAt, randomIndex(rnd, m)}
	}
	if (rnd.Intn(5) > 0) == grows {
		return call{callPut, randomItem(rnd)}
	}
	return call{callTake, 0}
}

func randomItem(rnd *rand.Rand) int {
	if rnd.Intn(4) == 0 {
		l := manyItems()
		return l[rnd.Intn(len(l))]
	}
	return rnd.Intn(2001) - 1000
}

func randomIndex(rnd *rand.Rand, m *model) int {
	if rnd.Intn(8) == 0 {
		l := neverIndices()
		return l[rnd.Intn(len(l))]
	}
	return rnd.Intn(len(m.items)+3) - 1
}

// Without the model: what was put as the n-th is taken as the n-th, whatever came between.
func TestP15_2_TakenInTheOrderOfPutting(t *testing.T) {
	for most := 1; most <= mostRing; most++ {
		rnd := rand.New(rand.NewSource(int64(most)))
		r := made(t, most)
		put, taken := 0, 0
		for put < 20*most+200 {
			for range rnd.Intn(most + 2) {
				if ok := r.Put(put); ok != (put-taken < most) {
					t.Fatal(most, put, taken)
				} else if ok {
					put++
				}
			}
			for range rnd.Intn(most + 2) {
				if x, ok := r.Take(); ok != (taken < put) || ok && x != taken {
					t.Fatal(most, put, taken, x)
				} else if ok {
					taken++
				}
			}
			if put-taken != r.Len() {
				t.Fatal(most, put, taken, r.Len())
			}
		}
		takes(t, r, row(taken, put-taken)...)
		isEmpty(t, r)
	}
}

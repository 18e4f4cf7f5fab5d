package timer_test

import (
	"math"
	"math/rand"
	"slices"
	"testing"

	"eddywheel/api"
	"eddywheel/timer"
)

// Written out, so that a limit that moves is seen.
const mostTimers = 64

// manyTimes are times far apart and next to each other, also those whose difference no int holds, and those that are alike in their last bits.
func manyTimes() []int {
	return []int{math.MinInt, math.MinInt + 1, math.MinInt32 - 1, math.MinInt32, -1 << 16, -2, -1, 0, 1, 2, 1 << 16, math.MaxInt32, math.MaxInt32 + 1, 1 << 32, 1<<32 + 1, math.MaxInt - 1, math.MaxInt}
}

// neverNumbers are those that no timer has, however many there were in these tests.
func neverNumbers() []int {
	return []int{math.MinInt, math.MinInt + 1, math.MinInt32, -1 << 32, -256, -mostTimers, -3, -2, -1, 1 << 20, math.MaxInt32, 1 << 32, 1<<32 + 1, math.MaxInt - 1, math.MaxInt}
}

func puts(t *testing.T, x *timer.Timers, due, item, want int) {
	t.Helper()
	before := x.Len()
	if n, e := x.Put(due, item); n != want || e != api.OK || x.Len() != before+1 {
		t.Fatalf("Put %d %d: %d, %d, not %d; Len %d, before %d", due, item, n, e, want, x.Len(), before)
	}
}

func refuses(t *testing.T, x *timer.Timers, want api.Errno) {
	t.Helper()
	before := x.Len()
	due, some := x.Next()
	for _, d := range manyTimes() {
		if n, e := x.Put(d, 7); n != 0 || e != want {
			t.Errorf("Put %d: %d, %d, not %d", d, n, e, want)
		}
		if now, ok := x.Next(); now != due || ok != some || x.Len() != before {
			t.Errorf("Next %d, %t, before %d, %t; Len %d, before %d", now, ok, due, some, x.Len(), before)
		}
	}
}

// isNext asks twice, as the timer stays.
func isNext(t *testing.T, x *timer.Timers, due int) {
	t.Helper()
	before := x.Len()
	for range 2 {
		if d, ok := x.Next(); d != due || !ok || x.Len() != before {
			t.Fatalf("Next %d, %t, not %d; Len %d, before %d", d, ok, due, x.Len(), before)
		}
	}
}

func isDue(t *testing.T, x *timer.Timers, now, item int) {
	t.Helper()
	before := x.Len()
	if i, ok := x.Due(now); i != item || !ok || x.Len() != before-1 {
		t.Fatalf("Due %d: %d, %t, not %d; Len %d, before %d", now, i, ok, item, x.Len(), before)
	}
}

func noneIsDue(t *testing.T, x *timer.Timers, now int) {
	t.Helper()
	before := x.Len()
	if i, ok := x.Due(now); i != 0 || ok || x.Len() != before {
		t.Fatalf("Due %d: %d, %t; Len %d, before %d", now, i, ok, x.Len(), before)
	}
}

// dues tells whether these items, and no more, are due at a time, in this order.
func dues(t *testing.T, x *timer.Timers, now int, items ...int) {
	t.Helper()
	for _, item := range items {
		isDue(t, x, now, item)
	}
	noneIsDue(t, x, now)
}

func removes(t *testing.T, x *timer.Timers, number, item int) {
	t.Helper()
	before := x.Len()
	if i, ok := x.Remove(number); i != item || !ok || x.Len() != before-1 {
		t.Fatalf("Remove %d: %d, %t, not %d; Len %d, before %d", number, i, ok, item, x.Len(), before)
	}
	isNotPending(t, x, number)
}

func isNotPending(t *testing.T, x *timer.Timers, numbers ...int) {
	t.Helper()
	before := x.Len()
	for _, number := range numbers {
		if i, ok := x.Remove(number); i != 0 || ok || x.Len() != before {
			t.Fatalf("Remove %d: %d, %t; Len %d, before %d", number, i, ok, x.Len(), before)
		}
	}
}

// isEmpty tells whether a queue has no timer, however one asks.
func isEmpty(t *testing.T, x *timer.Timers) {
	t.Helper()
	if x.Len() != 0 {
		t.Fatal(x.Len())
	}
	if d, ok := x.Next(); d != 0 || ok {
		t.Fatal(d, ok)
	}
	for _, now := range manyTimes() {
		noneIsDue(t, x, now)
	}
	for n := range 2 * mostTimers {
		isNotPending(t, x, n)
	}
	isNotPending(t, x, neverNumbers()...)
}

// fill puts so many timers as there may be; the one that is put k-th has the number first+k and the item 100+k.
func fill(t *testing.T, x *timer.Timers, first int, due func(k int) int) {
	t.Helper()
	for k := range mostTimers {
		puts(t, x, due(k), 100+k, first+k)
	}
}

func TestP14_1_TheExample(t *testing.T) {
	x := timer.New()
	puts(t, x, 5, 1, 0)
	puts(t, x, 3, 2, 1)
	puts(t, x, 5, 3, 2)
	isDue(t, x, 4, 2)
	noneIsDue(t, x, 4)
	isDue(t, x, 9, 1)
	isDue(t, x, 9, 3)
	isEmpty(t, x)
}

func TestP14_1_ANewQueueIsEmpty(t *testing.T) {
	x := timer.New()
	if x == nil {
		t.Fatal("nil")
	}
	isEmpty(t, x)
	puts(t, x, 1, 2, 0)
}

func TestP14_1_OneTimer(t *testing.T) {
	for _, due := range manyTimes() {
		for k, item := range manyTimes() {
			x := timer.New()
			puts(t, x, due, item, 0)
			isNext(t, x, due)
			isNotPending(t, x, 1, 2, mostTimers-1, mostTimers)
			isNotPending(t, x, neverNumbers()...)
			if k%2 == 0 {
				isDue(t, x, due, item)
			} else {
				removes(t, x, 0, item)
			}
			isEmpty(t, x)
		}
	}
}

func TestP14_1_EachNowAtEachDueTime(t *testing.T) {
	for _, due := range manyTimes() {
		for _, now := range manyTimes() {
			x := timer.New()
			puts(t, x, due, 7, 0)
			if due > now {
				noneIsDue(t, x, now)
				isNext(t, x, due)
				removes(t, x, 0, 7)
			} else {
				isDue(t, x, now, 7)
			}
			isEmpty(t, x)
		}
	}
}

func TestP14_1_JustBelowJustItAndJustAbove(t *testing.T) {
	for _, due := range manyTimes() {
		if due > math.MinInt {
			x := timer.New()
			puts(t, x, due, 7, 0)
			noneIsDue(t, x, due-1)
			noneIsDue(t, x, math.MinInt)
			isNext(t, x, due)
			isDue(t, x, due, 7)
			isEmpty(t, x)
		}
		if due < math.MaxInt {
			x := timer.New()
			puts(t, x, due, 7, 0)
			isDue(t, x, due+1, 7)
			isEmpty(t, x)
		}
	}
}

func TestP14_1_NowMayGoBack(t *testing.T) {
	x := timer.New()
	puts(t, x, 5, 1, 0)
	puts(t, x, 6, 2, 1)
	puts(t, x, 7, 3, 2)
	isDue(t, x, 7, 1)
	noneIsDue(t, x, 5)
	puts(t, x, 4, 4, 3)
	isDue(t, x, 5, 4)
	noneIsDue(t, x, math.MinInt)
	isDue(t, x, 6, 2)
	noneIsDue(t, x, 6)
	isDue(t, x, 7, 3)
	isEmpty(t, x)
}

func TestP14_1_TheItemIsAnyNumber(t *testing.T) {
	x := timer.New()
	items := manyTimes()
	for k, item := range items {
		puts(t, x, 3, item, k)
	}
	for k := 0; k < len(items); k += 2 {
		removes(t, x, k, items[k])
	}
	for k := 1; k < len(items); k += 2 {
		isDue(t, x, 3, items[k])
	}
	isEmpty(t, x)
}

func TestP14_1_TheSameItemAgain(t *testing.T) {
	x := timer.New()
	for k := range 5 {
		puts(t, x, 9-k, 1, k)
	}
	removes(t, x, 1, 1)
	isNext(t, x, 5)
	isDue(t, x, 5, 1)
	isNotPending(t, x, 4)
	isNext(t, x, 6)
	dues(t, x, 7, 1, 1)
	removes(t, x, 0, 1)
	isEmpty(t, x)
}

func TestP14_1_AFullQueue(t *testing.T) {
	for _, due := range []func(int) int{
		func(k int) int { return k },
		func(k int) int { return -k },
		func(k int) int { return 5 },
		func(k int) int { return k * 37 % mostTimers },
	} {
		x := timer.New()
		fill(t, x, 0, due)
		refuses(t, x, api.ErrFull)
		for k := range mostTimers {
			removes(t, x, k, 100+k)
		}
		isEmpty(t, x)
		puts(t, x, 1, 2, mostTimers)
	}
}

func TestP14_1_TheLastTimerFits(t *testing.T) {
	x := timer.New()
	for k := range mostTimers - 1 {
		puts(t, x, 10, k, k)
	}
	puts(t, x, 9, 1000, mostTimers-1)
	refuses(t, x, api.ErrFull)
	isNext(t, x, 9)
	isDue(t, x, 9, 1000)
	noneIsDue(t, x, 9)
	puts(t, x, 11, 1001, mostTimers)
	refuses(t, x, api.ErrFull)
	for k := range mostTimers - 1 {
		isDue(t, x, 10, k)
	}
	dues(t, x, 11, 1001)
	isEmpty(t, x)
}

func TestP14_1_RoomForOneMoreBehindEachThatGoes(t *testing.T) {
	x := timer.New()
	fill(t, x, 0, func(k int) int { return k })
	number := mostTimers
	for k := 0; k < mostTimers; k += 2 {
		isDue(t, x, k, 100+k)
		puts(t, x, 1000+k, 100+k, number)
		refuses(t, x, api.ErrFull)
		removes(t, x, k+1, 100+k+1)
		puts(t, x, 1000+k+1, 100+k+1, number+1)
		refuses(t, x, api.ErrFull)
		number += 2
	}
	for k := range mostTimers {
		isNotPending(t, x, k)
		isNext(t, x, 1000+k)
		noneIsDue(t, x, 999+k)
		isDue(t, x, 1000+k, 100+k)
	}
	isEmpty(t, x)
}

func TestP14_1_APutThatFailsTakesNoNumber(t *testing.T) {
	x := timer.New()
	fill(t, x, 0, func(k int) int { return k })
	for range 5 {
		refuses(t, x, api.ErrFull)
	}
	removes(t, x, 3, 103)
	puts(t, x, 2000, 7, mostTimers)
	refuses(t, x, api.ErrFull)
	isDue(t, x, 0, 100)
	puts(t, x, 2000, 8, mostTimers+1)
	removes(t, x, mostTimers, 7)
	removes(t, x, mostTimers+1, 8)
}

func TestP14_1_NumbersAreNotGivenAgain(t *testing.T) {
	x := timer.New()
	for k := range 500 {
		puts(t, x, k, -k, k)
		switch k % 3 {
		case 0:
			removes(t, x, k, -k)
		case 1:
			isDue(t, x, k, -k)
		case 2:
			noneIsDue(t, x, k-1)
			isNotPending(t, x, k-1, k+1)
			isDue(t, x, math.MaxInt, -k)
		}
		isNotPending(t, x, k)
	}
	for k := range 500 {
		isNotPending(t, x, k)
	}
	puts(t, x, 0, 1, 500)
}

func TestP14_1_TheOthersKeepTheirNumbers(t *testing.T) {
	x := timer.New()
	for k := range 6 {
		puts(t, x, 60-k, 10*k, k)
	}
	isDue(t, x, 55, 50)
	removes(t, x, 0, 0)
	puts(t, x, 58, 60, 6)
	isNotPending(t, x, 0, 5, 7)
	removes(t, x, 2, 20)
	removes(t, x, 6, 60)
	removes(t, x, 4, 40)
	removes(t, x, 1, 10)
	removes(t, x, 3, 30)
	isEmpty(t, x)
}

func TestP14_1_ATimerIsRemovedOnce(t *testing.T) {
	x := timer.New()
	puts(t, x, 1, 10, 0)
	puts(t, x, 2, 20, 1)
	puts(t, x, 3, 30, 2)
	removes(t, x, 1, 20)
	isNotPending(t, x, 1, 1, 1)
	isNext(t, x, 1)
	dues(t, x, 3, 10, 30)
	isNotPending(t, x, 0, 1, 2)
}

func TestP14_1_WhatIsNotPendingIsNotRemoved(t *testing.T) {
	x := timer.New()
	// Due times and items are no numbers.
	puts(t, x, 7, 8, 0)
	puts(t, x, 9, 10, 1)
	isNotPending(t, x, neverNumbers()...)
	isNotPending(t, x, 2, 3, 7, 8, 9, 10, mostTimers, 1<<16)
	isDue(t, x, 7, 8)
	isNotPending(t, x, 0, 2)
	isNext(t, x, 9)
	removes(t, x, 1, 10)
	isNotPending(t, x, 0, 1, 2)
}

func TestP14_1_RemoveAsksForNoTime(t *testing.T) {
	x := timer.New()
	puts(t, x, math.MaxInt, 1, 0)
	puts(t, x, math.MinInt, 2, 1)
	puts(t, x, 0, 3, 2)
	removes(t, x, 0, 1)
	isNext(t, x, math.MinInt)
	removes(t, x, 1, 2)
	isNext(t, x, 0)
	removes(t, x, 2, 3)
	isEmpty(t, x)
}

func TestP14_1_NextFollowsWhatIsPutAndWhatGoes(t *testing.T) {
	x := timer.New()
	puts(t, x, 5, 0, 0)
	isNext(t, x, 5)
	puts(t, x, 6, 1, 1)
	isNext(t, x, 5)
	puts(t, x, -4, 2, 2)
	isNext(t, x, -4)
	puts(t, x, math.MinInt, 3, 3)
	isNext(t, x, math.MinInt)
	puts(t, x, math.MaxInt, 4, 4)
	isNext(t, x, math.MinInt)
	removes(t, x, 3, 3)
	isNext(t, x, -4)
	removes(t, x, 0, 0)
	isNext(t, x, -4)
	isDue(t, x, 0, 2)
	isNext(t, x, 6)
	removes(t, x, 1, 1)
	isNext(t, x, math.MaxInt)
	isDue(t, x, math.MaxInt, 4)
	isEmpty(t, x)
}

func TestP14_1_DueTakesOneAtATime(t *testing.T) {
	x := timer.New()
	for k := range 5 {
		puts(t, x, 0, k, k)
	}
	for k := range 5 {
		if x.Len() != 5-k {
			t.Fatal(x.Len())
		}
		isDue(t, x, 100, k)
	}
	isEmpty(t, x)
}

func TestP14_1_EmptyAndFullManyTimesOver(t *testing.T) {
	x := timer.New()
	for round := range 40 {
		first := round * mostTimers
		fill(t, x, first, func(k int) int { return k * 29 % mostTimers })
		refuses(t, x, api.ErrFull)
		isNotPending(t, x, first-1, first+mostTimers)
		for k := range mostTimers {
			if (k+round)%3 == 0 {
				removes(t, x, first+k, 100+k)
			}
		}
		for k, ok := x.Next(); ok; k, ok = x.Next() {
			noneIsDue(t, x, k-1)
			// 53 undoes what 29 does.
			isDue(t, x, k, 100+k*53%mostTimers)
		}
		isEmpty(t, x)
	}
}

func TestP14_1_QueuesAreApart(t *testing.T) {
	a, b := timer.New(), timer.New()
	if a == b {
		t.Fatal("one queue")
	}
	puts(t, a, 1, 10, 0)
	puts(t, a, 2, 20, 1)
	isEmpty(t, b)
	puts(t, b, 3, 30, 0)
	isNext(t, a, 1)
	isNext(t, b, 3)
	removes(t, b, 0, 30)
	removes(t, a, 0, 10)
	isEmpty(t, b)
	fill(t, b, 1, func(k int) int { return k })
	puts(t, a, 1, 11, 2)
	dues(t, a, 2, 11, 20)
	isEmpty(t, a)
	refuses(t, b, api.ErrFull)
	isNext(t, b, 0)
}

func TestP14_1_NilTimers(t *testing.T) {
	var x *timer.Timers
	for range 2 {
		refuses(t, x, api.ErrNone)
		isEmpty(t, x)
	}
}

func TestP14_1_AQueueNotMadeByNewIsEmpty(t *testing.T) {
	isEmpty(t, new(timer.Timers))
	x := new(timer.Timers)
	fill(t, x, 0, func(k int) int { return -k })
	refuses(t, x, api.ErrFull)
	isDue(t, x, 0, 100+mostTimers-1)
}

func TestP14_2_TheSameTimeInTheOrderOfPutting(t *testing.T) {
	for _, due := range manyTimes() {
		x := timer.New()
		fill(t, x, 0, func(k int) int { return due })
		for k := range mostTimers {
			isDue(t, x, due, 100+k)
		}
		isEmpty(t, x)
	}
}

// The items here grow less, so that an order by items is seen.
func TestP14_2_TheOrderOfTheSameTimeBehindARemoveOfEach(t *testing.T) {
	for count := 1; count <= 6; count++ {
		for gone := range count {
			x := timer.New()
			var left []int
			for k := range count {
				puts(t, x, 4, -k, k)
				if k != gone {
					left = append(left, -k)
				}
			}
			removes(t, x, gone, -gone)
			puts(t, x, 4, -100, count)
			dues(t, x, 4, append(left, -100)...)
			isEmpty(t, x)
		}
	}
}

func TestP14_2_TheOrderOfTheSameTimeAmongOthers(t *testing.T) {
	x := timer.New()
	for k, due := range []int{4, 9, 4, 1, 9, 4, 1, 9} {
		puts(t, x, due, 10*k, k)
	}
	// The first of a time, the last of one, and one between.
	removes(t, x, 3, 30)
	removes(t, x, 7, 70)
	removes(t, x, 2, 20)
	puts(t, x, 4, 80, 8)
	puts(t, x, 1, 90, 9)
	puts(t, x, 9, 1000, 10)
	dues(t, x, 0)
	dues(t, x, 1, 60, 90)
	dues(t, x, 3)
	dues(t, x, 8, 0, 50, 80)
	puts(t, x, 4, 1100, 11)
	dues(t, x, 9, 1100, 10, 40, 1000)
	isEmpty(t, x)
}

func TestP14_2_TheEarliestFirst(t *testing.T) {
	times := manyTimes()
	for seed := range int64(50) {
		x := timer.New()
		for n, k := range rand.New(rand.NewSource(seed)).Perm(len(times)) {
			puts(t, x, times[k], k, n)
		}
		for k := range times {
			isNext(t, x, times[k])
			isDue(t, x, math.MaxInt, k)
		}
		isEmpty(t, x)
	}
}

// orders calls f with every row of so many numbers below most; the row is f's own.
func orders(count, most int, f func(row []int)) {
	var row []int
	var next func()
	next = func() {
		if len(row) == count {
			f(slices.Clone(row))
			return
		}
		for k := range most {
			row = append(row, k)
			next()
			row = row[:len(row)-1]
		}
	}
	next()
}

// Every row of five times below five, with each timer removed in turn, or none.
func TestP14_2_EveryOrderOfFive(t *testing.T) {
	orders(5, 5, func(row []int) {
		for gone := -1; gone < len(row); gone++ {
			x, m := timer.New(), &model{}
			for k, due := range row {
				puts(t, x, due, 10-k, k)
				m.Put(due, 10-k)
			}
			if gone >= 0 {
				removes(t, x, gone, 10-gone)
				m.Remove(gone)
			}
			for now := range 6 {
				for m.step(t, x, call{what: callDue, a: now}) {
				}
			}
			isEmpty(t, x)
		}
	})
}

// The model keeps its timers in the order in which they were put, and goes through all of them for the next one.
type model struct {
	left []entry
	put  int
}

type entry struct{ due, item, number int }

func (m *model) Put(due, item int) (int, api.Errno) {
	if len(m.left) == mostTimers {
		return 0, api.ErrFull
	}
	m.left = append(m.left, entry{due, item, m.put})
	m.put++
	return m.put - 1, api.OK
}

// next is the place of the next timer, or -1.
func (m *model) next() int {
	best := -1
	for i, x := range m.left {
		if best < 0 || x.due < m.left[best].due {
			best = i
		}
	}
	return best
}

func (m *model) drop(i int) (int, bool) {
	item := m.left[i].item
	m.left = append(append([]entry(nil), m.left[:i]...), m.left[i+1:]...)
	return item, true
}

func (m *model) Due(now int) (int, bool) {
	i := m.next()
	if i < 0 || m.left[i].due > now {
		return 0, false
	}
	return m.drop(i)
}

func (m *model) Next() (int, bool) {
	i := m.next()
	if i < 0 {
		return 0, false
	}
	return m.left[i].due, true
}

func (m *model) Remove(number int) (int, bool) {
	for i, x := range m.left {
		if x.number == number {
			return m.drop(i)
		}
	}
	return 0, false
}

const (
	callPut = iota
	callDue
	callRemove
)

type call struct{ what, a, b int }

// step does a call to the model and to the queue, which must answer alike and have the same then; it tells whether the call did something.
func (m *model) step(t *testing.T, x *timer.Timers, c call) bool {
	t.Helper()
	var got, want int
	var did, wantDid bool
	switch c.what {
	case callPut:
		n, e := x.Put(c.a, c.b)
		wantN, wantE := m.Put(c.a, c.b)
		if e != wantE {
			t.Fatalf("%v: %d, not %d", c, e, wantE)
		}
		got, did, want, wantDid = n, e == api.OK, wantN, wantE == api.OK
	case callDue:
		got, did = x.Due(c.a)
		want, wantDid = m.Due(c.a)
	case callRemove:
		got, did = x.Remove(c.a)
		want, wantDid = m.Remove(c.a)
	}
	if got != want || did != wantDid {
		t.Fatalf("%v: %d, %t, not %d, %t", c, got, did, want, wantDid)
	}
	if x.Len() != len(m.left) {
		t.Fatalf("%v: Len %d, not %d", c, x.Len(), len(m.left))
	}
	due, ok := x.Next()
	if wantDue, wantOk := m.Next(); due != wantDue || ok != wantOk {
		t.Fatalf("%v: Next %d, %t, not %d, %t", c, due, ok, wantDue, wantOk)
	}
	return did
}

// drain asks for what is left, one after the other.
func (m *model) drain(t *testing.T, x *timer.Timers) {
	t.Helper()
	for m.step(t, x, call{what: callDue, a: math.MaxInt}) {
	}
	if x.Len() != 0 {
		t.Fatal(x.Len())
	}
}

// Every row of up to six of nine calls is held against the model.
func TestP14_1_EveryRowOfCalls(t *testing.T) {
	calls := []call{
		{callPut, 0, 5}, {callPut, 1, 4}, {callPut, 2, 4},
		{callDue, 0, 0}, {callDue, 1, 0},
		{callRemove, 0, 0}, {callRemove, 1, 0}, {callRemove, 2, 0}, {callRemove, -1, 0},
	}
	orders(6, len(calls), func(row []int) {
		x, m := timer.New(), &model{}
		for _, k := range row {
			m.step(t, x, calls[k])
		}
		m.drain(t, x)
	})
}

// Many calls in a random order are held against the model: few times and many, and queues that are nearly empty, and nearly full.
func TestP14_1_RandomCalls(t *testing.T) {
	filled, emptied := 0, 0
	for seed := range int64(60) {
		r := rand.New(rand.NewSource(seed))
		x, m := timer.New(), &model{}
		span := 1 << (seed % 10)
		for n := range 4000 {
			c := randomCall(r, m, span, n/500%2 == 0)
			if !m.step(t, x, c) && c.what == callPut {
				filled++
			}
			if x.Len() == 0 {
				emptied++
			}
		}
		m.drain(t, x)
	}
	if filled < 1000 || emptied < 1000 {
		t.Error("too seldom full or empty", filled, emptied)
	}
}

// randomCall puts more often than not while the queue grows, and takes more often otherwise.
func randomCall(r *rand.Rand, m *model, span int, grows bool) call {
	if (r.Intn(3) > 0) == grows {
		return call{callPut, randomTime(r, span), r.Intn(2001) - 1000}
	}
	if r.Intn(2) == 0 {
		return call{callDue, randomTime(r, span), 0}
	}
	return call{callRemove, randomNumber(r, m), 0}
}

func randomTime(r *rand.Rand, span int) int {
	if r.Intn(12) == 0 {
		l := manyTimes()
		return l[r.Intn(len(l))]
	}
	return r.Intn(span) - span/2
}

// randomNumber is often one that is pending, and otherwise one that is not, or never was.
func randomNumber(r *rand.Rand, m *model) int {
	if len(m.left) > 0 && r.Intn(3) > 0 {
		return m.left[r.Intn(len(m.left))].number
	}
	if r.Intn(6) == 0 {
		l := neverNumbers()
		return l[r.Intn(len(l))]
	}
	return r.Intn(m.put + 2)
}

// Without the model: no timer comes before its time, none that is due is left behind, and each comes behind those that were due before it, or were put before it at the same time.
func TestP14_2_NoneIsEarlyAndNoneComesAheadOfAnother(t *testing.T) {
	for seed := range int64(200) {
		r := rand.New(rand.NewSource(seed))
		x := timer.New()
		var due []int
		for k := range 1 + r.Intn(mostTimers) {
			due = append(due, r.Intn(20))
			puts(t, x, due[k], k, k)
		}
		gone := map[int]bool{}
		for range r.Intn(len(due)) {
			k := r.Intn(len(due))
			if _, ok := x.Remove(k); ok == gone[k] {
				t.Fatal(k, ok)
			}
			gone[k] = true
		}
		last := -1
		for now := range 20 {
			for k, ok := x.Due(now); ok; k, ok = x.Due(now) {
				if gone[k] || due[k] != now || last >= 0 && (due[last] > due[k] || due[last] == due[k] && last > k) {
					t.Fatal(seed, now, k, last)
				}
				gone[k], last = true, k
			}
			if d, ok := x.Next(); ok && d <= now {
				t.Fatal(seed, now, d)
			}
		}
		if len(gone) != len(due) || x.Len() != 0 {
			t.Fatal(seed, len(gone), len(due), x.Len())
		}
	}
}

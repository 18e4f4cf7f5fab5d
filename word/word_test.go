package word_test

import (
	"math"
	"math/big"
	"testing"

	"eddywheel/api"
	"eddywheel/word"
)

// Written out, so that a limit that moves is seen.
const limit = 1 << 40

var (
	intsInside  = []int{0, 1, -1, 2, -2, 7, -7, 8, -8, 255, -256, 1 << 20, -1 << 20, 1 << 31, -1 << 31, 1 << 32, -1 << 32, 1<<39 - 1, 1 << 39, -1 << 39, limit - 2, limit - 1, 2 - limit, 1 - limit}
	intsOutside = []int{limit, limit + 1, -limit, -limit - 1, 1 << 41, -1 << 41, 1<<60 - 1, 1 << 60, -1 << 60, 1 << 61, 1<<61 + 5, 1<<61 - 5, -1 << 61, -1<<61 - 1, -1<<61 + 1, 1 << 62, -1 << 62, math.MaxInt - 1, math.MaxInt, math.MinInt, math.MinInt + 1}

	numberedKinds = []int{1, 3, 4}
	otherKinds    = []int{0, 2, 5, 6, 7, 8, 9, 10, 11, 12, 16, 17, 256, 257, 259, 260, 1<<32 + 1, 1<<61 + 4, -1, -2, -3, -4, -5, -7, -8, math.MaxInt, math.MinInt, math.MinInt + 1}

	numbersInside  = []int{0, 1, 2, 7, 8, 9, 1<<16 - 1, 1 << 16, 1<<32 - 1, 1 << 32, 1 << 39, limit - 2, limit - 1}
	numbersOutside = []int{limit, limit + 1, 1<<41 - 1, 1 << 43, 1<<61 - limit, 1<<61 - 1, 1 << 61, 1<<61 + 5, 1 << 62, math.MaxInt, -1, -2, -8, 1 - limit, -limit, -1 << 61, math.MinInt}
)

// payloads are those at which a kind of words begins or ends to be valid, and others around them.
var payloads = []uint64{0, 1, 2, 3, 4, 5, 7, 8, 9, 1 << 16, 1<<32 - 1, 1 << 32, limit - 2, limit - 1, limit, limit + 1, 1 << 41, 1 << 59, 1<<60 - 1, 1 << 60, 1<<60 + 1, 1<<61 - limit - 1, 1<<61 - limit, 1<<61 - limit + 1, 1<<61 - limit + 2, 1<<61 - 2, 1<<61 - 1}

func allWords() []api.Word {
	var l []api.Word
	for _, p := range payloads {
		for kind := range uint64(8) {
			l = append(l, api.Word(p<<3|kind))
		}
	}
	for w := range api.Word(1 << 12) {
		l = append(l, w)
	}
	return l
}

// intWord encodes by the document's words, not by the package: so that tests of Do do not hang on Int.
func intWord(n int) api.Word { return api.Word(uint64(n) * 8) }

// wordAsInt decodes a word by the document's words.
func wordAsInt(w api.Word) (int, bool) {
	payload := uint64(w) / 8
	switch {
	case uint64(w)%8 != 0:
		return 0, false
	case payload < 1<<40:
		return int(payload), true
	case payload > 1<<61-1<<40:
		return -int(1<<61 - payload), true
	}
	return 0, false
}

func wordAsNumber(kind int, w api.Word) (int, bool) {
	is := kind == 1 || kind == 3 || kind == 4
	if !is || int(uint64(w)%8) != kind || uint64(w)/8 >= 1<<40 {
		return 0, false
	}
	return int(uint64(w) / 8), true
}

func wordIsValid(w api.Word) bool {
	if _, ok := wordAsInt(w); ok {
		return true
	}
	for _, kind := range numberedKinds {
		if _, ok := wordAsNumber(kind, w); ok {
			return true
		}
	}
	return w == 2 || w == 10 || w == 18 || w == 26
}

func TestP1_1_KindsAreTheLowestThreeBits(t *testing.T) {
	kinds := [5]int{api.IsInt, api.IsAt, api.IsMark, api.IsName, api.IsHand}
	if kinds != [5]int{0, 1, 2, 3, 4} {
		t.Error("kinds", kinds)
	}
	marks := [4]api.Word{api.Nil, api.False, api.True, api.Unit}
	if marks != [4]api.Word{2, 10, 18, 26} {
		t.Error("marks", marks)
	}
}

func TestP1_1_IntHasItsNumberAsPayload(t *testing.T) {
	for _, c := range []struct {
		n    int
		want api.Word
	}{{0, 0}, {1, 8}, {-1, 1<<64 - 8}, {-2, 1<<64 - 16}, {limit - 1, 1<<43 - 8}, {1 - limit, 1<<64 - 1<<43 + 8}} {
		if w, e := word.Int(c.n); w != c.want || e != api.OK {
			t.Error(c.n, uint64(w), e)
		}
	}
	for _, n := range intsInside {
		if w, e := word.Int(n); w != intWord(n) || e != api.OK {
			t.Error(n, uint64(w), e)
		}
	}
}

func TestP1_1_IntOutOfRangeIsOver(t *testing.T) {
	for _, n := range intsOutside {
		if w, e := word.Int(n); w != 0 || e != api.ErrOver {
			t.Error(n, uint64(w), e)
		}
	}
}

func TestP1_1_OfHasKindAndPayload(t *testing.T) {
	for _, kind := range numberedKinds {
		for _, n := range numbersInside {
			if w, e := word.Of(kind, n); uint64(w) != uint64(n)*8+uint64(kind) || e != api.OK {
				t.Error(kind, n, uint64(w), e)
			}
		}
	}
}

func TestP1_1_OfRefusesNumbers(t *testing.T) {
	for _, kind := range numberedKinds {
		for _, n := range numbersOutside {
			if w, e := word.Of(kind, n); w != 0 || e != api.ErrArg {
				t.Error(kind, n, uint64(w), e)
			}
		}
	}
}

func TestP1_1_OfRefusesKinds(t *testing.T) {
	for _, kind := range otherKinds {
		for _, n := range append(numbersInside, numbersOutside...) {
			if w, e := word.Of(kind, n); w != 0 || e != api.ErrArg {
				t.Error(kind, n, uint64(w), e)
			}
		}
	}
}

func TestP1_2_MayKnowsTheMarks(t *testing.T) {
	for _, w := range []api.Word{api.Nil, api.False, api.True, api.Unit} {
		if !word.May(w) {
			t.Error(uint64(w))
		}
	}
	for _, w := range []api.Word{4<<3 | 2, 5<<3 | 2, 7<<3 | 2, 8<<3 | 2, limit<<3 | 2, 1<<64 - 6} {
		if word.May(w) {
			t.Error(uint64(w))
		}
	}
}

func TestP1_2_MayKnowsWhatIntAndOfMake(t *testing.T) {
	for _, n := range intsInside {
		if !word.May(intWord(n)) {
			t.Error(n)
		}
	}
	for _, kind := range numberedKinds {
		for _, n := range numbersInside {
			if !word.May(api.Word(n*8 + kind)) {
				t.Error(kind, n)
			}
		}
	}
}

func TestP1_2_MayRefusesAllOthers(t *testing.T) {
	for _, w := range []api.Word{5, 6, 7, 13, 14, 15, limit << 3, limit<<3 | 1, limit<<3 | 3, limit<<3 | 4, 1<<64 - 1<<43, 1<<64 - 1, 1<<64 - 2, 1<<64 - 4, 1<<64 - 5, 1<<64 - 7} {
		if word.May(w) {
			t.Error(uint64(w))
		}
	}
	for _, w := range allWords() {
		if word.May(w) != wordIsValid(w) {
			t.Error(uint64(w), word.May(w))
		}
	}
}

func TestP1_2_ToInt(t *testing.T) {
	for _, w := range allWords() {
		want, wantOk := wordAsInt(w)
		if n, ok := word.ToInt(w); n != want || ok != wantOk {
			t.Error(uint64(w), n, ok)
		}
	}
}

func TestP1_2_ToOfTheWordsKinds(t *testing.T) {
	for _, w := range allWords() {
		for kind := -1; kind < 10; kind++ {
			want, wantOk := wordAsNumber(kind, w)
			if n, ok := word.To(kind, w); n != want || ok != wantOk {
				t.Error(kind, uint64(w), n, ok)
			}
		}
	}
}

func TestP1_2_ToOfKindsThatDoNotExist(t *testing.T) {
	for _, w := range []api.Word{0, 1, 2, 3, 4, 5, 6, 7, 40, 41, 42, 43, 44, limit<<3 - 1, 1<<64 - 1} {
		for _, kind := range otherKinds {
			if n, ok := word.To(kind, w); n != 0 || ok {
				t.Error(kind, uint64(w), n, ok)
			}
		}
	}
}

func TestP1_2_Bool(t *testing.T) {
	if word.Bool(true) != 18 || word.Bool(false) != 10 {
		t.Error(word.Bool(true), word.Bool(false))
	}
}

const operations = "+-*/%<="

// numbersForDo are powers of two and what is beside them, whose products wrap round in 64 bits, and some more.
func numbersForDo() []int {
	l := []int{0, 3, -3, 10, -10, 6700417, 12345678901, -98765432109, limit - 1, 1 - limit, limit - 2, 2 - limit}
	for k := range 40 {
		for d := -1; d <= 1; d++ {
			l = append(l, 1<<k+d, -1<<k+d)
		}
	}
	return l
}

// expected is what Do's promise says of two integers, worked out in numbers without a limit.
func expected(op byte, a, b int) (api.Word, api.Errno) {
	x, y, z := big.NewInt(int64(a)), big.NewInt(int64(b)), new(big.Int)
	switch op {
	case '+':
		z.Add(x, y)
	case '-':
		z.Sub(x, y)
	case '*':
		z.Mul(x, y)
	case '<', '=':
		if op == '<' && x.Cmp(y) < 0 || op == '=' && x.Cmp(y) == 0 {
			return 18, 0
		}
		return 10, 0
	default:
		if b == 0 {
			return 0, 12
		}
		r := new(big.Int)
		z.QuoRem(x, y, r)
		if op == '%' {
			z = r
		}
	}
	if z.CmpAbs(big.NewInt(limit)) >= 0 {
		return 0, 10
	}
	return intWord(int(z.Int64())), 0
}

func TestP1_3_DoOfTwoIntegers(t *testing.T) {
	numbers := numbersForDo()
	for _, a := range numbers {
		for _, b := range numbers {
			for _, op := range []byte(operations) {
				want, wantError := expected(op, a, b)
				if w, e := word.Do(op, intWord(a), intWord(b)); w != want || e != wantError {
					t.Fatal(string(rune(op)), a, b, uint64(w), e)
				}
			}
		}
	}
}

func TestP1_3_SignsOfQuotientAndRemainder(t *testing.T) {
	for _, c := range []struct{ a, b, quotient, remainder int }{{7, 2, 3, 1}, {-7, 2, -3, -1}, {7, -2, -3, 1}, {-7, -2, 3, -1}, {6, -3, -2, 0}, {-6, 3, -2, 0}, {0, -5, 0, 0}, {1, 2, 0, 1}, {-1, 2, 0, -1}, {1, -2, 0, 1}, {1 - limit, -1, limit - 1, 0}, {1 - limit, limit - 1, -1, 0}, {limit - 2, 1 - limit, 0, limit - 2}} {
		if w, e := word.Do('/', intWord(c.a), intWord(c.b)); w != intWord(c.quotient) || e != api.OK {
			t.Error(c.a, c.b, uint64(w), e)
		}
		if w, e := word.Do('%', intWord(c.a), intWord(c.b)); w != intWord(c.remainder) || e != api.OK {
			t.Error(c.a, c.b, uint64(w), e)
		}
	}
}

func TestP1_3_Overflow(t *testing.T) {
	for _, c := range []struct {
		op   byte
		a, b int
	}{{'+', limit - 1, 1}, {'+', 1, limit - 1}, {'+', limit - 1, limit - 1}, {'+', 1 - limit, -1}, {'+', 1 - limit, 1 - limit}, {'-', 1 - limit, 1}, {'-', limit - 1, -1}, {'-', -1, limit - 1}, {'*', 1 << 20, 1 << 20}, {'*', -1 << 20, 1 << 20}, {'*', 1 << 32, 1 << 32}, {'*', 1 << 39, 1 << 25}, {'*', -1 << 39, 1 << 26}, {'*', limit - 1, limit - 1}, {'*', limit - 1, 2}, {'*', 1 - limit, -2}} {
		if w, e := word.Do(c.op, intWord(c.a), intWord(c.b)); w != 0 || e != api.ErrOver {
			t.Error(string(rune(c.op)), c.a, c.b, uint64(w), e)
		}
	}
}

// notInts are words that are not the Int of a number: of all kinds, valid or not.
func notInts() []api.Word {
	var l []api.Word
	for _, w := range allWords() {
		if _, ok := wordAsInt(w); !ok {
			l = append(l, w)
		}
	}
	return l
}

func TestP1_3_OtherWordsAreOfAnotherKind(t *testing.T) {
	for _, x := range notInts() {
		for _, op := range []byte(operations) {
			for _, y := range []api.Word{intWord(0), intWord(1), intWord(-5), intWord(limit - 1), x, api.Unit, 1, limit << 3} {
				if w, e := word.Do(op, x, y); w != 0 || e != api.ErrKind {
					t.Fatal(string(rune(op)), uint64(x), uint64(y), uint64(w), e)
				}
				if w, e := word.Do(op, y, x); w != 0 || e != api.ErrKind {
					t.Fatal(string(rune(op)), uint64(y), uint64(x), uint64(w), e)
				}
			}
		}
	}
}

func TestP1_3_OtherOperationsAreArg(t *testing.T) {
	words := []api.Word{intWord(0), intWord(1), intWord(-1), intWord(limit - 1), api.Nil, api.True, 1, 3, 4, 5, limit << 3}
	for n := range 256 {
		op := byte(n)
		switch op {
		case '+', '-', '*', '/', '%', '<', '=':
			continue
		}
		for _, a := range words {
			for _, b := range words {
				if w, e := word.Do(op, a, b); w != 0 || e != api.ErrArg {
					t.Fatal(n, uint64(a), uint64(b), uint64(w), e)
				}
			}
		}
	}
}

func TestP1_3_FirstErrorFirst(t *testing.T) {
	for _, c := range []struct {
		op   byte
		a, b api.Word
		want api.Errno
	}{{'^', api.Unit, 0, 1}, {0, 5, 5, 1}, {'/', api.Unit, 0, 11}, {'%', 1, 0, 11}, {'/', 0, api.Nil, 11}, {'/', 0, 0, 12}, {'%', 0, 0, 12}, {'/', intWord(1 - limit), 0, 12}, {'%', intWord(5), 0, 12}, {'*', 0, 0, 0}} {
		if w, e := word.Do(c.op, c.a, c.b); w != 0 || e != c.want {
			t.Error(string(rune(c.op)), uint64(c.a), uint64(c.b), uint64(w), e)
		}
	}
}

func TestP1_4_WhatWasEncodedComesBack(t *testing.T) {
	for _, n := range append(numbersForDo(), intsInside...) {
		w, e := word.Int(n)
		if back, ok := word.ToInt(w); e != api.OK || back != n || !ok || !word.May(w) {
			t.Error(n, uint64(w), e, back, ok)
		}
	}
	for _, kind := range numberedKinds {
		for _, n := range numbersInside {
			w, e := word.Of(kind, n)
			if back, ok := word.To(kind, w); e != api.OK || back != n || !ok || !word.May(w) {
				t.Error(kind, n, uint64(w), e, back, ok)
			}
		}
	}
}

func TestP1_4_NoWordEncodesTwoValues(t *testing.T) {
	type value struct{ kind, n int }
	owners := map[api.Word]value{}
	claim := func(w api.Word, v value) {
		if old, ok := owners[w]; ok && old != v {
			t.Error(uint64(w), old, v)
		}
		owners[w] = v
	}
	for i, w := range []api.Word{api.Nil, word.Bool(false), word.Bool(true), api.Unit} {
		claim(w, value{api.IsMark, i})
	}
	for _, n := range append(numbersForDo(), intsInside...) {
		w, _ := word.Int(n)
		claim(w, value{api.IsInt, n})
	}
	for _, kind := range numberedKinds {
		for _, n := range numbersInside {
			w, _ := word.Of(kind, n)
			claim(w, value{kind, n})
		}
	}
}

func TestP1_4_AtMostOneReadingOfAWord(t *testing.T) {
	for _, w := range allWords() {
		readings := 0
		if n, ok := word.ToInt(w); ok {
			readings++
			if again, e := word.Int(n); again != w || e != api.OK {
				t.Error(uint64(w), n, uint64(again), e)
			}
		}
		for kind := range 8 {
			if n, ok := word.To(kind, w); ok {
				readings++
				if again, e := word.Of(kind, n); again != w || e != api.OK {
					t.Error(uint64(w), kind, n, uint64(again), e)
				}
			}
		}
		switch w {
		case api.Nil, api.False, api.True, api.Unit:
			readings++
		}
		if readings > 1 || word.May(w) != (readings == 1) {
			t.Error(uint64(w), readings, word.May(w))
		}
	}
}

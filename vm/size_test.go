package vm_test

import (
	"slices"
	"strconv"
	"strings"
	"testing"

	"eddywheel/show"
)

func TestP13_7_AnySize(t *testing.T) {
	for _, s := range []string{
		"(define (f n a) (if (< n 1) a (f (- n 1) (cons n '())))) (f 50 0)",
		"(define (fib n) (if (< n 2) n (+ (fib (- n 1)) (fib (- n 2))))) (fib 6)",
		"(define (map f l) (if (null? l) l (cons (f (car l)) (map f (cdr l))))) (map (lambda (x) (call/cc (lambda (k) (k (* x x))))) '(1 2 3 4))",
		"(define k 0) (define n 0) (define x (cons 'a (call/cc (lambda (c) (set! k c) 1)))) (if (< n 3) (begin (set! n (+ n 1)) (k n)) (cons n x))",
		"(define (c n) (lambda () (set! n (+ n 1)) n)) (define a (c 5)) (define b (c 7)) (a) (b) (a) (cons (a) (b))",
		"(define (f n) (cons n (f (+ n 1)))) (f 0)",
		"(define (f n) (if (< n 1) (car n) (f (- n 1)))) (f 9)",
	} {
		states, values := trace(t, s, mostWords, false)
		completed, partly := 0, 0
		for size := 5; size < 260; size++ {
			for _, collects := range []bool{false, true} {
				l, v := trace(t, s, size, collects)
				end := len(l)
				if l[end-1] == stFull && !(len(states) == end && states[end-1] == stFull) {
					end--
					partly++
				} else {
					completed++
				}
				if end > len(states) || !slices.Equal(l[:end], states[:end]) || !slices.Equal(v[:end], values[:end]) {
					t.Fatalf("%s of size %d: %v, %v, not %v, %v", s, size, l, v, states, values)
				}
			}
		}
		if completed+partly < 400 || partly < 10 {
			t.Error(s, completed, partly)
		}
	}
}

// trace is how a machine of a text stands after each call, and its value where that is the program's own; up to 60 calls.
func trace(t *testing.T, s string, size int, collects bool) ([]int, []string) {
	t.Helper()
	m, n := textMachine(t, s, size)
	var states []int
	var values []string
	for range 60 {
		if collects {
			m.Collect()
		}
		left := m.Run(1)
		states = append(states, m.State())
		values = append(values, strconv.Itoa(left)+" "+strconv.Itoa(int(m.Fault()))+" "+show.Word(m.Arena(), n, m.Value()))
		if m.State() != stReady {
			break
		}
	}
	return states, values
}

func TestP13_7_SavedAndResumedAtEachCall(t *testing.T) {
	for _, s := range []string{
		"(define (fib n) (if (< n 2) n (+ (fib (- n 1)) (fib (- n 2))))) (fib 6)",
		"(define (map f l) (if (null? l) l (cons (f (car l)) (map f (cdr l))))) (map (lambda (x) (call/cc (lambda (k) (k (* x x))))) '(1 2 3 4))",
		"(define k 0) (define n 0) (define x (cons 'a (call/cc (lambda (c) (set! k c) 1)))) (if (< n 3) (begin (set! n (+ n 1)) (k n)) (cons n x))",
		"(define (f n) (if (< n 1) (car n) (f (- n 1)))) (f 9)",
		"(define (f n) (if (< n 1) '() (cons (cons n (time)) (f (- n 1))))) (f 9)",
	} {
		want, calls := outcome(t, s, -1, 1000)
		for at := range calls + 1 {
			if got, n := outcome(t, s, at, 1000); got != want || n != calls {
				t.Errorf("%s, saved at %d: %s after %d calls, not %s after %d", s, at, got, n, want, calls)
			}
		}
		// And at each call, with as few words as do.
		done := 0
		for size := 20; size < 300; size++ {
			got, n := outcome(t, s, 1<<20, size)
			if strings.HasPrefix(got, "5 ") {
				if done > 0 {
					t.Error(s, size, got)
				}
				continue
			}
			done++
			if got != want || n != calls {
				t.Errorf("%s, saved at each call, in %d words: %s after %d calls, not %s after %d", s, size, got, n, want, calls)
			}
		}
		if done < 50 {
			t.Error(s, done)
		}
	}
}

// outcome is how a text ends, and after how many calls. It is saved, and resumed after a collection, when so many calls are done, or at each one if that is a great number.
func outcome(t *testing.T, s string, saved, size int) (string, int) {
	t.Helper()
	m, n := textMachine(t, s, size)
	calls := 0
	for {
		m.Run(0)
		if m.State() == stHost {
			m.Answer(num(calls))
			continue
		}
		if m.State() != stReady {
			return strconv.Itoa(m.State()) + " " + strconv.Itoa(int(m.Fault())) + " " + show.Word(m.Arena(), n, m.Value()), calls
		}
		if saved == calls || saved == 1<<20 {
			w, e := m.Save()
			if e != okay {
				return "5 full", calls
			}
			i := mustKeep(t, m, w)
			m.Collect()
			w = kept(t, m, i)
			m.Drop(i)
			if e := m.Resume(w); e != okay {
				t.Fatal(e)
			}
		}
		m.Run(1)
		calls++
	}
}

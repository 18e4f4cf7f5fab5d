package vm_test

import (
	"math/big"
	"math/rand"
	"slices"
	"strconv"
	"testing"

	"eddywheel/api"
	"eddywheel/code"
	"eddywheel/vm"
)

// model is a second, slower machine: what has an address there is a thing of its own here, which is never moved.
type model struct {
	blocks                   []api.Block
	size, many               int
	things                   []*thing
	value, env, stack, frame ref
	block, at                int
	names, kept              map[int]ref
	state                    int
	fault                    api.Errno
	op                       int
	asked                    []ref
}

type thing struct {
	kind   int
	fields []ref
}

// ref is a word: a plain one, or that of a thing.
type ref struct {
	w  api.Word
	to *thing
}

// full is what an operation without room comes to; no errors of a program have its number.
const full = errRoom

func plain(w api.Word) ref { return ref{w: w} }

func newModel(l []api.Block, size, many int) *model {
	r := &model{blocks: l, size: size, many: many, names: map[int]ref{}, kept: map[int]ref{}}
	r.rest()
	return r
}

func (r *model) rest() {
	r.value, r.env, r.stack, r.frame = plain(unit), plain(null), plain(null), plain(null)
}

func (r *model) used() int {
	n := 0
	for _, x := range r.things {
		n += 1 + len(x.fields)
	}
	return n
}

// reached are the things that are reached from the model's words and from others.
func (r *model) reached(others ...ref) map[*thing]bool {
	found := map[*thing]bool{}
	var visit func(x ref)
	visit = func(x ref) {
		if x.to == nil || found[x.to] {
			return
		}
		found[x.to] = true
		for _, y := range x.to.fields {
			visit(y)
		}
	}
	for _, l := range [][]ref{{r.value, r.env, r.stack, r.frame}, r.asked, others} {
		for _, x := range l {
			visit(x)
		}
	}
	for _, l := range []map[int]ref{r.names, r.kept} {
		for _, x := range l {
			visit(x)
		}
	}
	return found
}

func (r *model) live() int {
	n := 0
	for x := range r.reached() {
		n += 1 + len(x.fields)
	}
	return n
}

func (r *model) collect(others ...ref) {
	found := r.reached(others...)
	r.things = slices.DeleteFunc(r.things, func(x *thing) bool { return !found[x] })
}

func (r *model) room(need int, others ...ref) bool {
	if r.size-r.used() < need {
		r.collect(others...)
	}
	return r.size-r.used() >= need
}

func (r *model) put(kind int, fields ...ref) ref {
	x := &thing{kind, fields}
	r.things = append(r.things, x)
	return ref{to: x}
}

func (r *model) alloc(kind int, fields ...ref) (ref, api.Errno) {
	if !r.room(1+len(fields), fields...) {
		return ref{}, full
	}
	return r.put(kind, fields...), okay
}

func (x ref) is(kind, many int) bool {
	return x.to != nil && x.to.kind == kind && len(x.to.fields) == many
}

func (x ref) int() (int, bool) {
	n := int(int64(x.w)) >> 3
	return n, x.to == nil && x.w&7 == isInt && -1<<40 < n && n < 1<<40
}

// begin, resume, save and the others are the calls of the chapter.
func (r *model) begin(f ref, l ...ref) api.Errno {
	if r.state == stReady || r.state == stHost {
		return errState
	}
	if len(l) > mostMany {
		return errArg
	}
	r.rest()
	r.fault, r.state = okay, stReady
	r.end(r.call(f, l, append([]ref{f}, l...), 0, func() (ref, []ref) { return plain(null), l }))
	return okay
}

func (r *model) end(e api.Errno) {
	switch e {
	case okay:
	case full:
		r.state = stFull
	default:
		r.state, r.fault = stFail, e
	}
}

// call calls a word with words, of which there are as many; what is made besides the env needs so many words, and is made last.
func (r *model) call(f ref, l, held []ref, more int, make func() (ref, []ref)) api.Errno {
	block := -1
	if f.is(kindFn, 2) {
		if n, ok := f.to.fields[0].int(); ok && n >= 0 && n < len(r.blocks) {
			block = n
		}
	}
	switch {
	case block >= 0 && r.blocks[block].Many != len(l):
		return errMany
	case block >= 0:
		if !r.room(more+2+len(l), held...) {
			return full
		}
		g, l := make()
		r.env = r.put(kindEnv, append([]ref{f.to.fields[1]}, l...)...)
		r.block, r.at, r.stack, r.frame = block, 0, plain(null), g
		return okay
	case !f.is(kindCont, 1):
		return errCall
	case len(l) != 1:
		return errMany
	}
	if !r.room(more, held...) {
		return full
	}
	_, l = make()
	return r.back(l[0], f.to.fields[0])
}

func (r *model) back(w, frame ref) api.Errno {
	if frame == plain(null) {
		r.value, r.frame, r.state = w, frame, stDone
		return okay
	}
	if !r.isFrame(frame) {
		return errPart
	}
	r.value = w
	r.goTo(frame)
	return okay
}

func (r *model) isFrame(x ref) bool {
	if !x.is(kindFrame, 5) {
		return false
	}
	block, ok := x.to.fields[0].int()
	if !ok || block < 0 || block >= len(r.blocks) {
		return false
	}
	at, ok := x.to.fields[1].int()
	return ok && at >= 0 && at < len(r.blocks[block].L)
}

func (r *model) goTo(x ref) {
	f := x.to.fields
	r.block, _ = f[0].int()
	r.at, _ = f[1].int()
	r.env, r.stack, r.frame = f[2], f[3], f[4]
}

func (r *model) here(at int, stack ref) []ref {
	return []ref{plain(num(r.block)), plain(num(at)), r.env, stack, r.frame}
}

func (r *model) save() (ref, api.Errno) {
	if r.state != stReady {
		return ref{}, errState
	}
	if !r.room(9) {
		return ref{}, full
	}
	x := r.put(kindFrame, r.here(r.at, r.put(kindPair, r.value, r.stack))...)
	r.rest()
	r.state = stIdle
	return x, okay
}

func (r *model) resume(x ref) api.Errno {
	if r.state == stReady || r.state == stHost {
		return errState
	}
	if !r.isFrame(x) || !x.to.fields[3].is(kindPair, 2) {
		return errArg
	}
	r.goTo(x)
	r.value, r.stack = r.stack.to.fields[0], r.stack.to.fields[1]
	r.fault, r.state = okay, stReady
	return okay
}

func (r *model) answer(x ref) api.Errno {
	if r.state != stHost {
		return errState
	}
	r.op, r.asked, r.value, r.state = 0, nil, x, stReady
	return okay
}

func (r *model) fail(e api.Errno) api.Errno {
	if r.state != stHost {
		return errState
	}
	if e == okay {
		return errArg
	}
	r.op, r.asked, r.fault, r.state = 0, nil, e, stFail
	return okay
}

func (r *model) keep(x ref) (int, api.Errno) {
	for i := range mostSlots {
		if _, is := r.kept[i]; !is {
			r.kept[i] = x
			return i, okay
		}
	}
	return 0, errLong
}

func (r *model) drop(i int) api.Errno {
	if _, is := r.kept[i]; !is {
		return errNone
	}
	delete(r.kept, i)
	return okay
}

func (r *model) run(fuel int) int {
	fuel = min(max(fuel, 0), mostFuel)
	for r.state == stReady {
		x := r.blocks[r.block].L[r.at]
		if x.Op >= 12 && x.Op <= 15 {
			if fuel == 0 {
				break
			}
			fuel--
		}
		value, env, stack, frame, block, at := r.value, r.env, r.stack, r.frame, r.block, r.at
		r.at++
		if e := r.obey(x); e != okay {
			r.value, r.env, r.stack, r.frame, r.block, r.at = value, env, stack, frame, block, at
			r.end(e)
		}
	}
	return fuel
}

func (r *model) obey(x api.Ins) (e api.Errno) {
	switch x.Op {
	case 1:
		r.value = plain(x.W)
	case 2, 4:
		env := r.env
		for i := 0; ; i++ {
			if env.to == nil || env.to.kind != kindEnv {
				return errPart
			}
			if i == x.A {
				break
			}
			env = env.to.fields[0]
		}
		if x.B >= len(env.to.fields)-1 {
			return errPart
		}
		if x.Op == 2 {
			r.value = env.to.fields[x.B+1]
			return okay
		}
		env.to.fields[x.B+1], r.value = r.value, plain(unit)
	case 3, 5, 6:
		w, is := r.names[x.A]
		switch {
		case x.A >= r.many || !is && x.Op != 6:
			return errUnset
		case x.Op == 3:
			r.value = w
		default:
			r.names[x.A], r.value = r.value, plain(unit)
		}
	case 7:
		r.stack, e = r.alloc(kindPair, r.value, r.stack)
	case 8:
		r.at = x.A
	case 9:
		if r.value == plain(no) {
			r.at = x.A
		}
	case 10:
		r.value, e = r.alloc(kindFn, plain(num(x.A)), r.env)
	case 11:
		return r.primitive(x)
	case 16:
		return r.back(r.value, r.frame)
	default:
		return r.callBy(x)
	}
	return e
}

// pop is words of the stack, and the rest of it; the stack stays.
func (r *model) pop(n int) ([]ref, ref, bool) {
	var l []ref
	rest := r.stack
	for range n {
		if !rest.is(kindPair, 2) {
			return nil, ref{}, false
		}
		l = append([]ref{rest.to.fields[0]}, l...)
		rest = rest.to.fields[1]
	}
	return l, rest, true
}

func (r *model) callBy(x api.Ins) api.Errno {
	l, rest, ok := r.pop(x.A)
	if !ok {
		return errPart
	}
	cc, stays, more := x.Op == 14 || x.Op == 15, x.Op == 12 || x.Op == 14, 0
	if r.value.is(kindCont, 1) && !cc {
		stays = false
	}
	if cc {
		l, more = []ref{{}}, more+2
	}
	if stays {
		more += 6
	}
	return r.call(r.value, l, l, more, func() (ref, []ref) {
		g := r.frame
		if stays {
			g = r.put(kindFrame, r.here(r.at, rest)...)
		}
		if cc {
			l = []ref{r.put(kindCont, g)}
		}
		return g, l
	})
}

func (r *model) primitive(x api.Ins) api.Errno {
	l, rest, ok := r.pop(x.B)
	if !ok {
		return errPart
	}
	if x.A > 17 {
		r.op, r.asked, r.state, r.stack = x.A, l, stHost, rest
		return okay
	}
	w, e := r.pure(x.A, l)
	if e == okay {
		r.value, r.stack = w, rest
	}
	return e
}

func (r *model) pure(op int, l []ref) (ref, api.Errno) {
	truth := func(is bool) (ref, api.Errno) {
		if is {
			return plain(yes), okay
		}
		return plain(no), okay
	}
	_, isNumber := l[0].int()
	switch op {
	case 8:
		return truth(l[0] == l[1])
	case 9:
		return truth(l[0] == plain(no))
	case 10:
		return truth(l[0] == plain(null))
	case 11:
		return truth(l[0].is(kindPair, 2))
	case 12:
		return r.alloc(kindPair, l...)
	case 13, 14:
		if !l[0].is(kindPair, 2) {
			return ref{}, errPart
		}
		return l[0].to.fields[op-13], okay
	case 15:
		return truth(isNumber)
	case 16:
		return truth(l[0].to == nil && l[0].w&7 == isName && l[0].w>>3 < 1<<40)
	case 17:
		return truth(l[0].to != nil && (l[0].to.kind == kindFn || l[0].to.kind == kindCont))
	}
	return compute(op, l[0], l[1])
}

func compute(op int, a, b ref) (ref, api.Errno) {
	x, ok := a.int()
	y, also := b.int()
	switch {
	case !ok || !also:
		return ref{}, errKind
	case y == 0 && (op == 4 || op == 5):
		return ref{}, errZero
	case op == 6 && x < y, op == 7 && x == y:
		return plain(yes), okay
	case op == 6 || op == 7:
		return plain(no), okay
	}
	p, q, z := big.NewInt(int64(x)), big.NewInt(int64(y)), new(big.Int)
	switch op {
	case 1:
		z.Add(p, q)
	case 2:
		z.Sub(p, q)
	case 3:
		z.Mul(p, q)
	case 4:
		z.Quo(p, q)
	case 5:
		z.Rem(p, q)
	}
	if z.CmpAbs(big.NewInt(1<<40)) >= 0 {
		return ref{}, errOver
	}
	return plain(num(int(z.Int64()))), okay
}

// pairing holds words of a machine against those of a model: which thing is at which address.
type pairing struct {
	m     *vm.Machine
	there map[api.Word]*thing
	here  map[*thing]api.Word
}

func newPairing(m *vm.Machine) pairing {
	return pairing{m, map[api.Word]*thing{}, map[*thing]api.Word{}}
}

func (p pairing) same(w api.Word, x ref) bool {
	if x.to == nil {
		return w == x.w
	}
	a, known := p.here[x.to]
	b, met := p.there[w]
	if known || met {
		return known && met && a == w && b == x.to
	}
	p.here[x.to], p.there[w] = w, x.to
	l := fieldsOf(p.m.Arena(), w)
	if w&7 != isAt || p.m.Arena().Kind(w) != x.to.kind || len(l) != len(x.to.fields) {
		return false
	}
	for i, y := range l {
		if !p.same(y, x.to.fields[i]) {
			return false
		}
	}
	return true
}

// agree tells whether a machine stands as its model does.
func agree(m *vm.Machine, r *model) bool {
	op, asked := m.Asked()
	if m.State() != r.state || m.Fault() != r.fault || op != r.op || len(asked) != len(r.asked) || m.Live() != r.live() || m.Arena().Used() != r.used() {
		return false
	}
	p := newPairing(m)
	if !p.same(m.Value(), r.value) {
		return false
	}
	for i, w := range asked {
		if !p.same(w, r.asked[i]) {
			return false
		}
	}
	for i := -1; i < len(r.kept)+30; i++ {
		w, e := m.Kept(i)
		x, is := r.kept[i]
		if is != (e == okay) || is && !p.same(w, x) || !is && (w != 0 || e != errNone) {
			return false
		}
	}
	return true
}

// session is a machine and its model, to which the same is done.
type session struct {
	t   *testing.T
	rng *rand.Rand
	m   *vm.Machine
	r   *model
	did []string
	n   [6]int // how often it stood so
}

func newSession(t *testing.T, rng *rand.Rand, l []api.Block, size, many int) *session {
	t.Helper()
	return &session{t: t, rng: rng, m: mustNew(t, l, size, many), r: newModel(l, size, many)}
}

func (s *session) did1(what string, same bool) bool {
	s.did = append(s.did, what)
	s.n[s.m.State()]++
	if same && agree(s.m, s.r) {
		return true
	}
	op, l := s.m.Asked()
	s.t.Errorf("size %d, %v\nafter %v\nit is %d %d %d, asks %d %v, reaches %d, uses %d; not %d %v %d, %d %v, %d, %d", s.r.size, s.r.blocks, s.did, s.m.State(), s.m.Value(), s.m.Fault(), op, l, s.m.Live(), s.m.Arena().Used(), s.r.state, s.r.value, s.r.fault, s.r.op, s.r.asked, s.r.live(), s.r.used())
	return false
}

// some is a word, and the model's, that nothing but a collection makes invalid.
func (s *session) some() (api.Word, ref) {
	var w api.Word
	var x ref
	switch n := s.rng.Intn(10); {
	case n < 2:
		w, x = s.m.Value(), s.r.value
	case n < 7 && len(s.r.kept) > 0:
		i := s.rng.Intn(len(s.r.kept) + 2)
		w, _ = s.m.Kept(i)
		x = s.r.kept[i]
	case n < 8 && len(s.r.asked) > 0:
		i := s.rng.Intn(len(s.r.asked))
		_, l := s.m.Asked()
		w, x = l[i], s.r.asked[i]
	default:
		l := []api.Word{num(0), num(1), num(2), num(-1), null, no, yes, unit, symbol(1), handle(2)}
		w = l[s.rng.Intn(len(l))]
		x = plain(w)
	}
	// Some of what it leads to.
	for x.to != nil && len(x.to.fields) > 0 && s.rng.Intn(8) == 0 {
		i := s.rng.Intn(len(x.to.fields))
		w, x = fieldsOf(s.m.Arena(), w)[i], x.to.fields[i]
	}
	return w, x
}

// step does something to both, and tells whether they agree after that.
func (s *session) step() bool {
	w, x := s.some()
	v, y := s.some()
	switch s.rng.Intn(20) {
	case 0:
		s.m.Collect()
		s.r.collect()
		return s.did1("Collect", true)
	case 1, 2:
		i, e := s.m.Keep(w)
		k, f := s.r.keep(x)
		return s.did1("Keep", i == k && e == f)
	case 3:
		i := s.rng.Intn(len(s.r.kept)+3) - 1
		return s.did1("Drop "+strconv.Itoa(i), s.m.Drop(i) == s.r.drop(i))
	case 4:
		w, e := s.m.Cons(w, v)
		x, f := s.r.alloc(kindPair, x, y)
		return s.made("Cons", w, x, e, f)
	case 5:
		w, e := s.m.Fn()
		x, f := s.r.alloc(kindFn, plain(num(0)), plain(null))
		return s.made("Fn", w, x, e, f)
	case 6, 7:
		return s.begin(w, x, v, y)
	case 8:
		return s.did1("Resume", s.m.Resume(w) == s.r.resume(x))
	case 9:
		w, e := s.m.Save()
		x, f := s.r.save()
		return s.made("Save", w, x, e, f)
	case 10, 11, 12:
		return s.did1("Answer", s.m.Answer(w) == s.r.answer(x))
	case 13:
		e := []api.Errno{okay, errPart, errRoom, 77}[s.rng.Intn(4)]
		return s.did1("Fail "+strconv.Itoa(int(e)), s.m.Fail(e) == s.r.fail(e))
	}
	fuel := s.rng.Intn(5) - 1
	return s.did1("Run "+strconv.Itoa(fuel), s.m.Run(fuel) == s.r.run(fuel))
}

// made holds against each other what both made; most of it is kept.
func (s *session) made(what string, w api.Word, x ref, e, f api.Errno) bool {
	same := e == f && newPairing(s.m).same(w, x)
	if e != okay {
		same = e == f && w == 0
	} else if s.rng.Intn(4) > 0 {
		i, _ := s.m.Keep(w)
		k, _ := s.r.keep(x)
		same = same && i == k
	}
	return s.did1(what+" "+strconv.Itoa(int(e)), same)
}

func (s *session) begin(w api.Word, x ref, v api.Word, y ref) bool {
	n := s.rng.Intn(4)
	if x.is(kindFn, 2) && s.rng.Intn(4) > 0 {
		block, _ := x.to.fields[0].int()
		n = s.r.blocks[block].Many
	} else if s.rng.Intn(3) > 0 {
		if w, e := s.m.Fn(); e == okay {
			x, f := s.r.alloc(kindFn, plain(num(0)), plain(null))
			if f != okay {
				return s.did1("Fn", false)
			}
			return s.did1("Fn, Begin", s.m.Begin(w) == s.r.begin(x))
		}
		_, f := s.r.alloc(kindFn, plain(num(0)), plain(null))
		return s.did1("Fn", f == full)
	}
	return s.did1("Begin "+strconv.Itoa(n), s.m.Begin(w, slices.Repeat([]api.Word{v}, n)...) == s.r.begin(x, slices.Repeat([]ref{y}, n)...))
}

// coder writes code that is valid, and does anything.
type coder struct {
	rng   *rand.Rand
	manys []int
	many  int // that of the block that is written
}

func randomBlocks(rng *rand.Rand) []api.Block {
	c := &coder{rng: rng, manys: make([]int, 2+rng.Intn(6))}
	for i := range c.manys {
		c.manys[i] = []int{0, 1, 1, 1, 2, 3}[rng.Intn(6)]
	}
	c.manys[0] = 0
	var l []api.Block
	for _, many := range c.manys {
		c.many = many
		l = append(l, api.Block{Many: many, L: c.last(nil, 3)})
	}
	c.many = 0
	// Mostly, some names are words from the start on.
	var start []api.Ins
	for i := range 3 {
		if rng.Intn(5) > 0 {
			start = append(start, api.Ins{Op: 10, A: 1 + rng.Intn(len(c.manys)-1)}, api.Ins{Op: 6, A: i})
		}
	}
	for i, x := range l[0].L {
		if x.Op == 8 || x.Op == 9 {
			l[0].L[i].A += len(start)
		}
	}
	l[0].L = append(start, l[0].L...)
	return l
}

// last adds code to the end of a block.
func (c *coder) last(l []api.Ins, deep int) []api.Ins {
	l, depth := c.some(l, deep)
	if deep > 0 && c.rng.Intn(4) == 0 {
		l = c.drop(l, depth)
		l = append(l, api.Ins{Op: 9})
		at := len(l) - 1
		l = c.last(l, deep-1)
		l[at].A = len(l)
		return c.last(l, deep-1)
	}
	switch c.rng.Intn(4) {
	case 0:
		l = append(c.drop(l, depth), c.callee(1))
		return append(l, api.Ins{Op: 15})
	case 1:
		return append(c.drop(l, depth), api.Ins{Op: 16})
	}
	return append(l, c.callee(depth), api.Ins{Op: 13, A: depth})
}

// some adds code, and tells how many words it leaves on the stack.
func (c *coder) some(l []api.Ins, deep int) ([]api.Ins, int) {
	depth := 0
	arities := []int{0, 2, 2, 2, 2, 2, 2, 2, 2, 1, 1, 1, 2, 1, 1, 1, 1, 1, 0, 1, 1, 1, 2, 1, 0, 2, 2, 1, 2, 1, 0}
	for range c.rng.Intn(12) {
		switch n := c.rng.Intn(24); {
		case n < 3:
			l = append(l, c.load())
		case n < 4 && (c.many > 0 || c.rng.Intn(20) == 0):
			l = append(l, api.Ins{Op: 4, A: c.rng.Intn(20) / 19, B: c.rng.Intn(c.many + 1)})
		case n < 6:
			l = append(l, api.Ins{Op: uint8(6 - c.rng.Intn(5)/4), A: c.rng.Intn(3)})
		case n < 13:
			l = append(l, c.load(), api.Ins{Op: 7})
			depth++
		case n < 17:
			op := 1 + c.rng.Intn(30)
			if op < 8 && c.rng.Intn(3) > 0 || op == 13 || op == 14 {
				op = 12
			}
			if op == prCC || depth < arities[op] {
				continue
			}
			l = append(l, api.Ins{Op: 11, A: op, B: arities[op]})
			depth -= arities[op]
		case n < 20:
			many := c.rng.Intn(min(depth, 3) + 1)
			l = append(l, c.callee(many), api.Ins{Op: 12, A: many})
			depth -= many
		case n < 22:
			l = append(l, c.callee(1), api.Ins{Op: 14})
		case deep > 0:
			l = c.choice(l, deep-1)
		}
	}
	return l, depth
}

func (c *coder) choice(l []api.Ins, deep int) []api.Ins {
	l = append(l, api.Ins{Op: 9})
	not := len(l) - 1
	l, depth := c.some(l, deep)
	l = append(c.drop(l, depth), api.Ins{Op: 8})
	jump := len(l) - 1
	l[not].A = len(l)
	l, depth = c.some(l, deep)
	l = c.drop(l, depth)
	l[jump].A = len(l)
	return l
}

func (c *coder) drop(l []api.Ins, depth int) []api.Ins {
	for range depth {
		l = append(l, api.Ins{Op: 11, A: 9, B: 1})
	}
	return l
}

func (c *coder) load() api.Ins {
	switch n := c.rng.Intn(10); {
	case n < 3 && c.many > 0:
		return api.Ins{Op: 2, B: c.rng.Intn(c.many)}
	case n < 1 && c.rng.Intn(3) == 0:
		return api.Ins{Op: 2, A: c.rng.Intn(3), B: c.rng.Intn(3)}
	case n < 5:
		return api.Ins{Op: 3, A: c.rng.Intn(3)}
	case n < 7:
		return api.Ins{Op: 10, A: 1 + c.rng.Intn(len(c.manys)-1)}
	}
	l := []api.Word{num(1), num(2), num(-3), num(1<<40 - 1), null, no, yes, symbol(1)}
	return api.Ins{Op: 1, W: l[c.rng.Intn(len(l))]}
}

// callee is mostly a function of so many words.
func (c *coder) callee(many int) api.Ins {
	if c.rng.Intn(8) == 0 {
		return c.load()
	}
	var l []int
	for i, n := range c.manys[1:] {
		if n == many {
			l = append(l, i+1)
		}
	}
	if len(l) == 0 || c.rng.Intn(5) == 0 {
		return api.Ins{Op: 3, A: c.rng.Intn(3)}
	}
	return api.Ins{Op: 10, A: l[c.rng.Intn(len(l))]}
}

func TestP13_5_RandomCodeAgainstASlowerWay(t *testing.T) {
	rng := rand.New(rand.NewSource(13))
	var n [6]int
	for range 8000 {
		l := randomBlocks(rng)
		if i, k, e := code.Check(l); e != okay {
			t.Fatal(l, i, k, e)
		}
		s := newSession(t, rng, l, 3+rng.Intn(30+rng.Intn(300)), 3-rng.Intn(8)/7)
		if !s.did1("New", true) {
			return
		}
		for range 60 {
			if !s.step() {
				return
			}
		}
		for i, k := range s.n {
			n[i] += k
		}
	}
	for state, k := range n {
		if k < 4000 {
			t.Error("it stood too seldom so:", state, k)
		}
	}
}

func TestP13_7_TextsAgainstASlowerWay(t *testing.T) {
	for i, s := range []string{
		"(define (f n a) (if (< n 1) a (f (- n 1) (cons n '())))) (f 50 0)",
		"(define (fib n) (if (< n 2) n (+ (fib (- n 1)) (fib (- n 2))))) (fib 6)",
		"(define (map f l) (if (null? l) l (cons (f (car l)) (map f (cdr l))))) (map (lambda (x) (call/cc (lambda (k) (k (* x x))))) '(1 2 3 4))",
		"(define k 0) (define n 0) (define x (cons 'a (call/cc (lambda (c) (set! k c) 1)))) (if (< n 3) (begin (set! n (+ n 1)) (k n)) (cons n x))",
		"(define (c n) (lambda () (set! n (+ n 1)) n)) (define a (c 5)) (define b (c 7)) (a) (b) (a) (cons (a) (b))",
		"(define l '()) (define (note x) (set! l (cons x l))) (note (time)) (note (settle (promise) 'a)) (note (out (cons 1 (read (stream 4))))) l",
	} {
		b, n := compile(t, s)
		for size := 1; size < 200; size++ {
			rng := rand.New(rand.NewSource(int64(1000*i + size)))
			s := newSession(t, rng, b, size, n.Len())
			w, e := s.m.Fn()
			x, f := s.r.alloc(kindFn, plain(num(0)), plain(null))
			if e != f {
				t.Fatal(size, e, f)
			}
			if e != okay {
				continue
			}
			if !s.did1("Fn, Begin", s.m.Begin(w) == s.r.begin(x)) {
				return
			}
			for range 80 {
				w, x := s.some()
				if !s.did1("Run", s.m.Run(1) == s.r.run(1)) || !s.did1("Answer", s.m.Answer(w) == s.r.answer(x)) {
					return
				}
			}
		}
	}
}

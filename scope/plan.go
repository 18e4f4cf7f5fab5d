package scope

import (
	"strings"

	"eddywheel/api"
	"eddywheel/word"
)

// What stands instead of a number of levels where a name is one of the program.
const ofProgram = -1

// part is a part that is what becomes of a form.
func (r *resolver) part(i int) part {
	return func() plan { return r.plan(r.forms[i]) }
}

func (r *resolver) all(l []int) []part {
	parts := make([]part, len(l))
	for i, k := range l {
		parts[i] = r.part(k)
	}
	return parts
}

// plan is what becomes of a form.
func (r *resolver) plan(f api.Form) plan {
	switch f.Kind {
	case api.FoInt:
		return number(f.At, f.N)
	case api.FoBool:
		return constant(f.At, word.Bool(f.N == 1))
	case api.FoQuote:
		return r.quote(f.At, f.N)
	case api.FoName:
		return r.name(f)
	case api.FoFn:
		return r.function(f)
	case api.FoSet:
		return r.set(f)
	case api.FoDef:
		return r.define(f)
	case api.FoCall:
		return r.call(f)
	}
	return r.keep(f)
}

// keep is a form whose parts alone are resolved.
func (r *resolver) keep(f api.Form) plan {
	return plan{form: api.Form{Kind: f.Kind, At: f.At}, parts: r.all(f.L)}
}

func (r *resolver) name(f api.Form) plan {
	a, n, e := r.refer(f.S)
	if e != api.OK {
		return wrong(f.At, e)
	}
	if a == ofProgram {
		return plan{form: api.Form{Kind: api.FoName, At: f.At, S: strings.Clone(f.S), N: n}}
	}
	return plan{form: api.Form{Kind: api.FoLocal, At: f.At, A: a, N: n}}
}

func (r *resolver) set(f api.Form) plan {
	a, n, e := r.refer(f.S)
	if e != api.OK {
		return wrong(f.At, e)
	}
	p := r.keep(f)
	p.form.A, p.form.N = a, n
	if a == ofProgram {
		p.form.S = strings.Clone(f.S)
	}
	return p
}

// refer is what a name stands for: a place some levels out, or a number of a name of the program.
func (r *resolver) refer(s string) (a, n int, e api.Errno) {
	if a, n, ok := r.bound.find(s); ok {
		return a, n, api.OK
	}
	if r.defined[s] > 0 {
		n, e := r.names.Put(s)
		return ofProgram, n, e
	}
	if isPrimitive(s) {
		return 0, 0, api.ErrPrim
	}
	return 0, 0, api.ErrName
}

func (r *resolver) function(f api.Form) plan {
	r.bound.enter(f.P)
	p := r.keep(f)
	p.form.N = len(f.P)
	return p
}

func (r *resolver) define(f api.Form) plan {
	if isPrimitive(f.S) {
		return wrong(f.At, api.ErrPrim)
	}
	n, e := r.names.Put(f.S)
	if e != api.OK {
		return wrong(f.At, e)
	}
	p := r.keep(f)
	p.form.S, p.form.N = strings.Clone(f.S), n
	return p
}

func (r *resolver) call(f api.Form) plan {
	op, many, ok := r.called(r.forms[f.L[0]])
	if !ok {
		return r.keep(f)
	}
	rest := f.L[1:]
	if len(rest) != many {
		return wrong(f.At, api.ErrPrim)
	}
	return primitiveOf(f.At, op, r.all(rest)...)
}

// called is the primitive that is called by a form that stands first in a call, if it is one's name.
func (r *resolver) called(f api.Form) (op, many int, ok bool) {
	if f.Kind != api.FoName || r.defined[f.S] > 0 {
		return 0, 0, false
	}
	if _, _, ok := r.bound.find(f.S); ok {
		return 0, 0, false
	}
	return Prim(f.S)
}

// quote is what becomes of a datum that is quoted.
func (r *resolver) quote(at, i int) plan {
	d := r.data[i]
	switch d.Kind {
	case api.DatInt:
		return number(at, d.N)
	case api.DatBool:
		return constant(at, word.Bool(d.N == 1))
	case api.DatName:
		return r.quoteName(at, d.S)
	}
	return r.quoteList(at, d.L)
}

func (r *resolver) quoteName(at int, s string) plan {
	n, e := r.names.Put(s)
	if e != api.OK {
		return wrong(at, e)
	}
	// The numbers of names are all small enough for a word.
	w, _ := word.Of(api.IsName, n)
	return constant(at, w)
}

func (r *resolver) quoteList(at int, l []int) plan {
	if len(l) == 0 {
		return constant(at, api.Nil)
	}
	first := func() plan { return r.quote(at, l[0]) }
	others := func() plan { return r.quoteList(at, l[1:]) }
	return primitiveOf(at, api.PrCons, first, others)
}

func number(at, n int) plan {
	w, e := word.Int(n)
	if e != api.OK {
		return wrong(at, e)
	}
	return constant(at, w)
}

func constant(at int, w api.Word) plan {
	return plan{form: api.Form{Kind: api.FoConst, At: at, W: w}}
}

func primitiveOf(at, op int, parts ...part) plan {
	return plan{form: api.Form{Kind: api.FoPrim, At: at, N: op}, parts: parts}
}

func wrong(at int, e api.Errno) plan { return plan{e: e, form: api.Form{At: at}} }

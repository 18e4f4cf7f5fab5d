package expand

import (
	"math"
	"slices"
	"strings"

	"eddywheel/api"
)

const (
	elseName  = "else"
	pairParts = 2
	// No name of a text is a blank, so what an or keeps under this one hides no other name.
	keptName = " "
)

// list is a list of data that begins with a reserved name: what follows that name.
type list struct {
	at   int
	rest []int
	top  bool
}

// shape is what becomes of the lists that begin with one reserved name.
type shape func(l list) plan

// allShapes has a shape for each reserved name.
func (x *expander) allShapes() map[string]shape {
	return map[string]shape{
		"quote": between(1, 1, func(l list) plan {
			return plan{form: api.Form{Kind: api.FoQuote, At: l.at, N: l.rest[0]}}
		}),
		"if":     between(2, 3, x.choice),
		"lambda": atLeast(2, x.lambda),
		"set!":   between(2, 2, x.set),
		"begin": atLeast(1, func(l list) plan {
			return plan{instead: x.body(l.at, l.rest)}
		}),
		"define": atLeast(2, x.define),
		"let":    atLeast(2, x.let),
		"let*":   atLeast(2, x.letStar),
		"cond":   atLeast(1, func(l list) plan { return x.cond(l.at, l.rest) }),
		elseName: func(l list) plan { return wrong(l.at) },
		"and":    func(l list) plan { return x.and(l.at, l.rest) },
		"or":     func(l list) plan { return x.or(l.at, l.rest) },
		"when": atLeast(2, func(l list) plan {
			return choose(l.at, x.datum(l.rest[0]), x.body(l.at, l.rest[1:]), truth(l.at, 0))
		}),
		"unless": atLeast(2, func(l list) plan {
			return choose(l.at, x.datum(l.rest[0]), truth(l.at, 0), x.body(l.at, l.rest[1:]))
		}),
	}
}

// between is a shape of lists that have so many data, and the others are wrong.
func between(least, most int, is shape) shape {
	return func(l list) plan {
		if len(l.rest) < least || len(l.rest) > most {
			return wrong(l.at)
		}
		return is(l)
	}
}

func atLeast(least int, is shape) shape { return between(least, math.MaxInt, is) }

func (x *expander) choice(l list) plan {
	other := truth(l.at, 0)
	if len(l.rest) > 2 {
		other = x.datum(l.rest[2])
	}
	return choose(l.at, x.datum(l.rest[0]), x.datum(l.rest[1]), other)
}

func (x *expander) lambda(l list) plan {
	d := x.data[l.rest[0]]
	names, ok := x.names(d.L)
	if d.Kind != api.DatList || !ok {
		return wrong(l.at)
	}
	return function(l.at, names, x.body(l.at, l.rest[1:]))
}

func (x *expander) set(l list) plan {
	name, ok := x.name(l.rest[0])
	if !ok {
		return wrong(l.at)
	}
	return plan{form: api.Form{Kind: api.FoSet, At: l.at, S: name}, parts: []part{x.datum(l.rest[1])}}
}

func (x *expander) define(l list) plan {
	if !l.top {
		return wrong(l.at)
	}
	if head := x.data[l.rest[0]].L; len(head) > 0 {
		return x.defineFunction(l, head)
	}
	name, ok := x.name(l.rest[0])
	if !ok || len(l.rest) > 2 {
		return wrong(l.at)
	}
	return definition(l.at, name, x.datum(l.rest[1]))
}

func (x *expander) defineFunction(l list, head []int) plan {
	name, ok := x.name(head[0])
	names, allOK := x.names(head[1:])
	if !ok || !allOK {
		return wrong(l.at)
	}
	body := x.body(l.at, l.rest[1:])
	return definition(l.at, name, func() plan { return function(l.at, names, body) })
}

func (x *expander) let(l list) plan {
	bound, values, ok := x.pairs(l.rest[0])
	names, namesOK := x.names(bound)
	if !ok || !namesOK {
		return wrong(l.at)
	}
	return call(l.at, names, x.body(l.at, l.rest[1:]), x.all(values)...)
}

// letStar asks of each name that it is one, not of all together: each has a function of its own.
func (x *expander) letStar(l list) plan {
	bound, values, ok := x.pairs(l.rest[0])
	if !ok {
		return wrong(l.at)
	}
	var names []string
	for _, i := range bound {
		name, ok := x.name(i)
		if !ok {
			return wrong(l.at)
		}
		names = append(names, name)
	}
	return x.nested(l.at, names, values, x.body(l.at, l.rest[1:]))
}

func (x *expander) nested(at int, names []string, values []int, body part) plan {
	if len(names) == 0 {
		return plan{instead: body}
	}
	inner := func() plan { return x.nested(at, names[1:], values[1:], body) }
	return call(at, []string{names[0]}, inner, x.datum(values[0]))
}

func (x *expander) cond(at int, clauses []int) plan {
	if len(clauses) == 0 {
		return truth(at, 0)()
	}
	clause := x.data[clauses[0]]
	if len(clause.L) < 2 {
		return wrong(clause.At)
	}
	body := x.body(clause.At, clause.L[1:])
	if x.data[clause.L[0]].S != elseName {
		others := func() plan { return x.cond(at, clauses[1:]) }
		return choose(at, x.datum(clause.L[0]), body, others)
	}
	if len(clauses) > 1 {
		return wrong(clause.At)
	}
	return plan{instead: body}
}

func (x *expander) and(at int, l []int) plan {
	return x.chain(at, l, 1, func() plan {
		others := func() plan { return x.and(at, l[1:]) }
		return choose(at, x.datum(l[0]), others, truth(at, 0))
	})
}

func (x *expander) or(at int, l []int) plan {
	return x.chain(at, l, 0, func() plan {
		others := func() plan { return x.or(at, l[1:]) }
		body := func() plan { return choose(at, kept(at), kept(at), others) }
		return call(at, []string{strings.Clone(keptName)}, body, x.datum(l[0]))
	})
}

// chain is what becomes of no datum, of one, or of more of an and or an or.
func (x *expander) chain(at int, l []int, none int, more part) plan {
	switch len(l) {
	case 0:
		return truth(at, none)()
	case 1:
		return plan{instead: x.datum(l[0])}
	}
	return more()
}

// kept is a name of what an or keeps.
func kept(at int) part {
	return func() plan {
		return plan{form: api.Form{Kind: api.FoName, At: at, S: strings.Clone(keptName)}}
	}
}

// body is a part of one or several data; at is that of the form that has them all.
func (x *expander) body(at int, l []int) part {
	if len(l) == 1 {
		return x.datum(l[0])
	}
	return func() plan {
		return plan{form: api.Form{Kind: api.FoSeq, At: at}, parts: x.all(l)}
	}
}

// name is the name that a datum is. Only names have a text.
func (x *expander) name(i int) (string, bool) {
	s := x.data[i].S
	if s == "" || x.isReserved(s) {
		return "", false
	}
	return strings.Clone(s), true
}

// names are those of a list of names.
func (x *expander) names(l []int) ([]string, bool) {
	var names []string
	for _, i := range l {
		name, ok := x.name(i)
		if !ok || len(names) == api.MaxMany || slices.Contains(names, name) {
			return nil, false
		}
		names = append(names, name)
	}
	return names, true
}

// pairs are the first and the second data of the lists of two that a list has.
func (x *expander) pairs(i int) (bound, values []int, ok bool) {
	d := x.data[i]
	for _, k := range d.L {
		pair := x.data[k].L
		if len(pair) != pairParts {
			return nil, nil, false
		}
		bound = append(bound, pair[0])
		values = append(values, pair[1])
	}
	return bound, values, d.Kind == api.DatList
}

func truth(at, n int) part {
	return func() plan { return plan{form: api.Form{Kind: api.FoBool, At: at, N: n}} }
}

func choose(at int, asked, yes, no part) plan {
	return plan{form: api.Form{Kind: api.FoIf, At: at}, parts: []part{asked, yes, no}}
}

func function(at int, names []string, body part) plan {
	return plan{form: api.Form{Kind: api.FoFn, At: at, P: names}, parts: []part{body}}
}

func definition(at int, name string, value part) plan {
	return plan{form: api.Form{Kind: api.FoDef, At: at, S: name}, parts: []part{value}}
}

// call is a function of its own, called at once; its body comes ahead of what it is called with.
func call(at int, names []string, body part, values ...part) plan {
	parts := []part{func() plan { return function(at, names, body) }}
	return plan{form: api.Form{Kind: api.FoCall, At: at}, parts: append(parts, values...)}
}

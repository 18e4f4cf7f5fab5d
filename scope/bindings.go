package scope

// binding is a name of a list of names: the list's level, from the outermost on, and its place there.
type binding struct {
	name         string
	level, place int
	// The binding of the same name that it hides, counted from 1 on, or 0.
	hidden int
}

// bindings are the names of all the lists that are around, the innermost last. Each name's innermost binding is kept, too, so that a name is found as fast in many lists as in few.
type bindings struct {
	levels int
	row    []binding
	// Counted from 1 on; 0 if there is none.
	innermost map[string]int
}

func (b *bindings) enter(names []string) {
	if b.innermost == nil {
		b.innermost = map[string]int{}
	}
	for i, s := range names {
		b.row = append(b.row, binding{s, b.levels, i, b.innermost[s]})
		b.innermost[s] = len(b.row)
	}
	b.levels++
}

// leave takes away the innermost list, which has so many names.
func (b *bindings) leave(count int) {
	b.levels--
	for range count {
		last := len(b.row) - 1
		x := b.row[last]
		b.innermost[x.name] = x.hidden
		b.row = b.row[:last]
	}
}

// find is how many levels out a name is bound, and its place there.
func (b *bindings) find(s string) (a, n int, ok bool) {
	i := b.innermost[s]
	if i == 0 {
		return 0, 0, false
	}
	x := b.row[i-1]
	return b.levels - 1 - x.level, x.place, true
}

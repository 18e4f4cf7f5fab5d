package vm

import (
	"slices"

	"eddywheel/api"
	"eddywheel/move"
	"eddywheel/word"
)

// row is numbered places, each of which has a word or none.
type row struct {
	// A place without a word has 0 here, which is no address: so the places can all be roots as they are.
	words []api.Word
	taken []bool
}

func newRow(many int) row {
	return row{words: make([]api.Word, many), taken: make([]bool, many)}
}

// has tells whether there is a place of this number, and a word in it.
func (r *row) has(i int) bool {
	return i >= 0 && i < len(r.taken) && r.taken[i]
}

func (r *row) set(i int, w api.Word) {
	r.words[i], r.taken[i] = w, true
}

func (r *row) clear(i int) {
	r.words[i], r.taken[i] = 0, false
}

// add puts a word into the first place that has none, or into a new one if there are fewer than most.
func (r *row) add(w api.Word, most int) (int, api.Errno) {
	i := slices.Index(r.taken, false)
	if i < 0 {
		i = len(r.taken)
		if i >= most {
			return 0, api.ErrLong
		}
		r.words, r.taken = append(r.words, 0), append(r.taken, false)
	}
	r.set(i, w)
	return i, api.OK
}

// roots are the words from which a machine's objects are reached.
func (m *Machine) roots() []api.Word {
	return slices.Concat([]api.Word{m.value, m.env, m.stack, m.frame}, m.asked, m.names.words, m.kept.words)
}

// collect lets go of what is reached neither from the machine's words nor from others, and tells what became of the others.
func (m *Machine) collect(others ...api.Word) []api.Word {
	live, words := move.Live(m.arena, append(m.roots(), others...)...)
	m.arena = live
	m.value, m.env, m.stack, m.frame = words[0], words[1], words[2], words[3]
	words = words[4:]
	for _, own := range [][]api.Word{m.asked, m.names.words, m.kept.words} {
		words = words[copy(own, words):]
	}
	return words
}

// room sees that so many words are unused, and tells what became of words that are needed besides the machine's own.
func (m *Machine) room(need int, others ...api.Word) ([]api.Word, api.Errno) {
	if m.unused() < need {
		others = m.collect(others...)
	}
	if m.unused() < need {
		return nil, api.ErrRoom
	}
	return others, api.OK
}

func (m *Machine) unused() int {
	return m.arena.Size() - m.arena.Used()
}

// alloc makes room for an object, and makes it.
func (m *Machine) alloc(kind int, fields ...api.Word) (api.Word, api.Errno) {
	fields, e := m.room(wordsOf(len(fields)), fields...)
	if e != api.OK {
		return 0, e
	}
	return m.put(kind, fields...), api.OK
}

// put makes an object for which there is room.
func (m *Machine) put(kind int, fields ...api.Word) api.Word {
	w, _ := m.arena.Alloc(kind, fields...)
	return w
}

// is tells whether a word is an object of this kind, with so many fields.
func (m *Machine) is(w api.Word, kind, many int) bool {
	return m.arena.Kind(w) == kind && m.arena.Len(w) == many
}

// field is a field of an object that has it.
func (m *Machine) field(w api.Word, i int) api.Word {
	x, _ := m.arena.Get(w, i)
	return x
}

// index is the number that a field is, if it is one of so many.
func (m *Machine) index(w api.Word, i, many int) (int, bool) {
	n, ok := word.ToInt(m.field(w, i))
	if !ok || n < 0 || n >= many {
		return 0, false
	}
	return n, true
}

// wordsOf is how many words an object uses.
func wordsOf(fields int) int {
	return 1 + fields
}

// number is a number that is small enough, as a word.
func number(n int) api.Word {
	w, _ := word.Int(n)
	return w
}

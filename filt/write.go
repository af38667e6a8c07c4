package filt

import (
	"castellan/api"
	"castellan/octet"
)

// writer writes a text till that is too long: what is behind might not fit into memory.
type writer struct{ text []byte }

// Print answers the text of a filter.
func Print(f api.Filter) (string, api.Errno) {
	if e := Check(f); e != api.OK {
		return "", e
	}
	var w writer
	w.filter(f)
	if w.full() {
		return "", api.ErrLong
	}
	return string(w.text), api.OK
}

// full tells whether the text is too long already.
func (w *writer) full() bool { return len(w.text) > api.MaxText }

// put writes the words, one behind the other.
func (w *writer) put(words ...string) {
	for _, word := range words {
		w.text = append(w.text, word...)
	}
}

// value writes a value.
func (w *writer) value(value string) {
	for i := 0; i < len(value) && !w.full(); i++ {
		if guarded(value[i]) {
			w.put(`\`, octet.Hex(value[i:i+1]))
		} else {
			w.text = append(w.text, value[i])
		}
	}
}

// filter writes a filter.
func (w *writer) filter(f api.Filter) {
	if w.full() {
		return
	}
	w.put("(")
	if branch(f.Kind) {
		w.put(sign(f.Kind))
		for _, kid := range f.Kids {
			w.filter(kid)
		}
	} else {
		w.put(f.Attr, sign(f.Kind))
		w.asserted(f)
	}
	w.put(")")
}

// asserted writes what stands behind a filter's sign.
func (w *writer) asserted(f api.Filter) {
	switch f.Kind {
	case api.Present:
		w.put("*")
	case api.Pieces:
		w.pieces(f.Pieces)
	default:
		w.value(f.Value)
	}
}

// pieces writes pieces that are sound: a * between two, and at an end where no Initial or Final one stands.
func (w *writer) pieces(pieces []api.Piece) {
	for _, p := range pieces {
		if w.full() {
			return
		}
		if p.Kind != api.Initial {
			w.put("*")
		}
		w.value(p.Text)
	}
	if pieces[len(pieces)-1].Kind != api.Final {
		w.put("*")
	}
}

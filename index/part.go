package index

import (
	"iter"

	"castellan/api"
	"castellan/octet"
	"castellan/syntax"
)

// set is things of one sort, each once.
type set[K comparable] map[K]struct{}

// sets is, for each key, the IDs of the entries that have it. No key stands there without an entry.
type sets[K comparable] map[K]set[int]

// add lets an entry have a key.
func (s sets[K]) add(key K, id int) {
	if s[key] == nil {
		s[key] = set[int]{}
	}
	s[key][id] = struct{}{}
}

// drop leaves an entry without a key.
func (s sets[K]) drop(key K, id int) {
	delete(s[key], id)
	if len(s[key]) == 0 {
		delete(s, key)
	}
}

// has tells whether an entry has a key.
func (s sets[K]) has(key K, id int) bool {
	_, there := s[key][id]
	return there
}

// gram is three bytes that stand in a text in a row.
type gram [3]byte

// grams goes through the grams of a text, from its beginning on.
func grams(text string) iter.Seq[gram] {
	return func(yield func(gram) bool) {
		for i := range len(text) - 2 {
			if !yield(gram{text[i], text[i+1], text[i+2]}) {
				return
			}
		}
	}
}

// part is what an index has of one type: of each entry that has the attribute the normal forms of its values, and who
// has which of these, and which grams stand in them.
type part struct {
	syntax int
	norms  map[int][]string
	values sets[string]
	grams  sets[gram]
}

// newPart answers a part without entries, of a type of that syntax.
func newPart(syn int) *part {
	return &part{syntax: syn, norms: map[int][]string{}, values: sets[string]{}, grams: sets[gram]{}}
}

// put takes in an entry that isn't there.
func (p *part) put(id int, values []string) {
	if len(values) == 0 {
		return
	}
	p.norms[id] = nil
	for _, value := range values {
		if norm, ok := syntax.Norm(p.syntax, value); ok {
			p.norms[id] = append(p.norms[id], norm)
			p.values.add(norm, id)
			for g := range grams(norm) {
				p.grams.add(g, id)
			}
		}
	}
}

// drop leaves an entry out, if it is there.
func (p *part) drop(id int) {
	for _, norm := range p.norms[id] {
		p.values.drop(norm, id)
		for g := range grams(norm) {
			p.grams.drop(g, id)
		}
	}
	delete(p.norms, id)
}

// sought answers a piece's text as it is looked for in normal forms.
func (p *part) sought(text string) string {
	if p.syntax == api.Exact {
		return text
	}
	return octet.Fold(text)
}

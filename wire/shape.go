package wire

import (
	"castellan/api"
	"castellan/tlv"
)

// shape is how a T is an element. It is told once for reading, writing and copying, so that none of them has what
// another one doesn't.
type shape[T any] struct {
	sound func(from *T) bool           // may it be written?
	write func(from *T) api.Node       // of one that is sound
	read  func(n api.Node, to *T) bool // into one that has nothing of it yet, and could it be read?
	bare  func(from, to *T)            // copies what plays a part into such a one
	lacks func(from *T) bool           // nil, where it can't lack among other parts
	deep  bool                         // may the element be too deep?
}

// there tells whether it doesn't lack.
func (s shape[T]) there(from *T) bool { return s.lacks == nil || !s.lacks(from) }

// leaf is the shape of what the bytes of one element say: put answers them, take what they say, if anything.
func leaf[T any](tag int, put func(T) string, take func(string) (T, bool)) shape[T] {
	return shape[T]{
		sound: func(from *T) bool {
			_, ok := take(put(*from))
			return ok
		},
		write: func(from *T) api.Node { return tlv.Leaf(tag, put(*from)) },
		read: func(n api.Node, to *T) bool {
			told, ok := take(n.Data)
			if n.Tag != tag || !ok {
				return false
			}
			*to = told
			return true
		},
		bare: func(from, to *T) { *to = *from },
	}
}

// nothing is the shape of an element without bytes.
func nothing(tag int) shape[struct{}] {
	return leaf(tag,
		func(struct{}) string { return "" },
		func(data string) (struct{}, bool) { return struct{}{}, data == "" })
}

// text is the shape of any bytes.
func text(tag int) shape[string] {
	return leaf(tag,
		func(s string) string { return s },
		func(data string) (string, bool) { return data, true })
}

// number is the shape of a number within these bounds.
func number(tag, low, high int) shape[int] {
	return leaf(tag,
		func(n int) string { return tlv.Int(int64(n)) },
		func(data string) (int, bool) {
			n, ok := tlv.Number(data)
			return int(n), ok && int64(low) <= n && n <= int64(high)
		})
}

// truth is the shape of a truth.
func truth(tag int) shape[bool] {
	put := func(is bool) string {
		if is {
			return "\xff"
		}
		return "\x00"
	}
	return leaf(tag, put, tlv.Bool)
}

// field is the shape of an S of which nothing but the T plays a part that at tells.
func field[S, T any](at func(*S) *T, of shape[T]) shape[S] {
	return shape[S]{
		sound: func(from *S) bool { return of.sound(at(from)) },
		write: func(from *S) api.Node { return of.write(at(from)) },
		read:  func(n api.Node, to *S) bool { return of.read(n, at(to)) },
		bare:  func(from, to *S) { of.bare(at(from), at(to)) },
	}
}

// unless is s, which lacks where that is true of a T.
func unless[T any](lacks func(*T) bool, s shape[T]) shape[T] {
	s.lacks = lacks
	return s
}

// maybe is s, which lacks where has is false.
func maybe[T any](has func(*T) *bool, s shape[T]) shape[T] {
	out := unless(func(from *T) bool { return !*has(from) }, s)
	out.read = func(n api.Node, to *T) bool {
		ok := s.read(n, to)
		*has(to) = ok
		return ok
	}
	out.bare = func(from, to *T) {
		*has(to) = true
		s.bare(from, to)
	}
	return out
}

// either is with, where is is true, and else without.
func either[T any](is func(*T) *bool, with, without shape[T]) shape[T] {
	which := func(from *T) shape[T] {
		if *is(from) {
			return with
		}
		return without
	}
	return shape[T]{
		sound: func(from *T) bool { return which(from).sound(from) },
		write: func(from *T) api.Node { return which(from).write(from) },
		read: func(n api.Node, to *T) bool {
			if without.read(n, to) {
				return true
			}
			*is(to) = with.read(n, to)
			return *is(to)
		},
		bare: func(from, to *T) {
			*is(to) = *is(from)
			which(from).bare(from, to)
		},
	}
}

// such is s of those alone of which ok is true. Of what is to be written ok is asked first: s may rely on it.
func such[T any](s shape[T], ok func(*T) bool) shape[T] {
	out := s
	out.sound = func(from *T) bool { return ok(from) && s.sound(from) }
	out.read = func(n api.Node, to *T) bool { return s.read(n, to) && ok(to) }
	return out
}

// seq is the shape of parts, one behind the other, each of something of the T.
func seq[T any](tag int, parts ...shape[T]) shape[T] {
	return shape[T]{
		sound: func(from *T) bool {
			for _, part := range parts {
				if part.there(from) && !part.sound(from) {
					return false
				}
			}
			return true
		},
		write: func(from *T) api.Node {
			var kids []api.Node
			for _, part := range parts {
				if part.there(from) {
					kids = append(kids, part.write(from))
				}
			}
			return api.Node{Tag: tag, Kids: kids}
		},
		read: func(n api.Node, to *T) bool { return n.Tag == tag && readParts(n.Kids, to, parts) },
		bare: func(from, to *T) {
			for _, part := range parts {
				if part.there(from) {
					part.bare(from, to)
				}
			}
		},
	}
}

// readParts reads the parts of a T, and tells whether the elements were these and no more.
func readParts[T any](kids []api.Node, to *T, parts []shape[T]) bool {
	for _, part := range parts {
		switch {
		case len(kids) > 0 && part.read(kids[0], to):
			kids = kids[1:]
		case part.lacks == nil:
			return false
		}
	}
	return len(kids) == 0
}

// list is the shape of any number of things, one behind the other.
func list[T any](tag int, of shape[T]) shape[[]T] {
	return shape[[]T]{
		sound: func(from *[]T) bool {
			for i := range *from {
				if !of.sound(&(*from)[i]) {
					return false
				}
			}
			return true
		},
		write: func(from *[]T) api.Node { return api.Node{Tag: tag, Kids: writeAll(*from, of)} },
		read: func(n api.Node, to *[]T) bool {
			if n.Tag != tag {
				return false
			}
			*to = zeros[T](len(n.Kids))
			for i, kid := range n.Kids {
				if !of.read(kid, &(*to)[i]) {
					return false
				}
			}
			return true
		},
		bare: func(from, to *[]T) {
			*to = zeros[T](len(*from))
			for i := range *from {
				of.bare(&(*from)[i], &(*to)[i])
			}
		},
	}
}

// zeros answers a list of so many zero values; where there are none, none at all, as a message has that lacks the list.
func zeros[T any](count int) []T {
	if count == 0 {
		return nil
	}
	return make([]T, count)
}

// writeAll answers the elements of things, up to the one with which they are too long to be written, whatever is
// behind: all of them might not fit into memory. Where one behind may be too deep, which would be told ahead of their
// length, it answers all.
func writeAll[T any](things []T, of shape[T]) []api.Node {
	var kids []api.Node
	size := 0
	for i := range things {
		kid := of.write(&things[i])
		kids = append(kids, kid)
		if of.deep {
			continue
		}
		size += least(kid)
		if size > api.MaxPdu {
			break
		}
	}
	return kids
}

// least answers how many bytes an element has, if each length in it is one byte, as few as can be.
func least(n api.Node) int {
	size := 2 + len(n.Data)
	for _, kid := range n.Kids {
		size += least(kid)
	}
	return size
}

package tlv_test

import (
	"encoding/hex"
	"math/rand"
	"strconv"
	"strings"
	"testing"

	"castellan/api"
	"castellan/tlv"
)

// is: a test fails, if something is another thing than was wanted.
func is[T comparable](t *testing.T, what string, got, want T) {
	t.Helper()
	if got != want {
		t.Errorf("%s: %v, wanted %v", what, got, want)
	}
}

// shape answers a node as a text: a tag, with bytes behind a colon, or with Kids in parentheses.
func shape(n api.Node) string {
	tag := hex.EncodeToString([]byte{byte(n.Tag)})
	if n.Tag&0x20 == 0 {
		return tag + ":" + hex.EncodeToString([]byte(n.Data)) + " "
	}
	var out strings.Builder
	out.WriteString(tag + "( ")
	for _, kid := range n.Kids {
		out.WriteString(shape(kid))
	}
	return out.String() + ") "
}

// sound: no node has what no element has.
func sound(t *testing.T, n api.Node) {
	t.Helper()
	if n.Tag < 0 || n.Tag > 255 || n.Tag&0x20 == 0 && len(n.Kids) > 0 || n.Tag&0x20 != 0 && n.Data != "" {
		t.Errorf("the tag %d has %d bytes and %d Kids", n.Tag, len(n.Data), len(n.Kids))
	}
	for _, kid := range n.Kids {
		sound(t, kid)
	}
}

// zero tells whether a node has nothing.
func zero(n api.Node) bool { return n.Tag == 0 && n.Data == "" && len(n.Kids) == 0 }

// element answers the bytes of an element, its length in as few bytes as can be.
func element(tag byte, data string) string {
	n := len(data)
	front := []byte{tag}
	switch {
	case n < 1<<7:
		front = append(front, byte(n))
	case n < 1<<8:
		front = append(front, 0x81, byte(n))
	case n < 1<<16:
		front = append(front, 0x82, byte(n>>8), byte(n))
	default:
		front = append(front, 0x83, byte(n>>16), byte(n>>8), byte(n))
	}
	return string(front) + data
}

// nested answers s within so many elements.
func nested(depth int, s string) string {
	for range depth {
		s = element(0x30, s)
	}
	return s
}

// within answers nodes within so many others.
func within(depth int, nodes ...api.Node) api.Node {
	for range depth - 1 {
		nodes = []api.Node{{Tag: 0x30, Kids: nodes}}
	}
	return api.Node{Tag: 0x30, Kids: nodes}
}

// leaf answers a node of so many bytes.
func leaf(bytes int) api.Node { return api.Node{Tag: 4, Data: strings.Repeat("a", bytes)} }

// plain is Parse's words said in another way: it goes through the bytes once, with the ends of the open elements in a list.
func plain(s string) (string, string, api.Errno) {
	var out strings.Builder
	at, ends := 0, []int{len(s)}
	for {
		end := ends[len(ends)-1]
		if len(ends) > 1 && at == end {
			out.WriteString(") ")
			ends = ends[:len(ends)-1]
		} else {
			next, length, e := front(s[:end], at, len(ends))
			if e != api.OK {
				return "", "", e
			}
			out.WriteString(hex.EncodeToString([]byte{s[at]}))
			if s[at]&0x20 != 0 {
				out.WriteString("( ")
				at, ends = next, append(ends, next+length)
				continue
			}
			out.WriteString(":" + hex.EncodeToString([]byte(s[next:next+length])) + " ")
			at = next + length
		}
		if len(ends) == 1 {
			return out.String(), s[at:], api.OK
		}
	}
}

// front answers where the bytes of the element of that depth begin that begins at that place, and how many they are.
func front(s string, at, depth int) (int, int, api.Errno) {
	if depth > 64 {
		return 0, 0, api.ErrDeep
	}
	if at >= len(s) {
		return 0, 0, api.ErrShort
	}
	if s[at]%32 == 31 {
		return 0, 0, api.ErrTag
	}
	if at++; at >= len(s) {
		return 0, 0, api.ErrShort
	}
	length := int(s[at])
	at++
	if length >= 128 {
		count := length - 128
		if count < 1 || count > 4 {
			return 0, 0, api.ErrLen
		}
		if at+count > len(s) {
			return 0, 0, api.ErrShort
		}
		length = 0
		for range count {
			length = length*256 + int(s[at])
			at++
		}
		if length > 1048576 {
			return 0, 0, api.ErrLong
		}
	}
	if at+length > len(s) {
		return 0, 0, api.ErrShort
	}
	return at, length, api.OK
}

// asPlain: Parse and Whole answer of s what plain answers.
func asPlain(t *testing.T, s string) {
	t.Helper()
	want, wantRest, wantE := plain(s)
	n, rest, e := tlv.Parse(s)
	if e != wantE || rest != wantRest || e == api.OK && shape(n) != want || e != api.OK && !zero(n) {
		t.Errorf("Parse(%.100x) is %.100s, %.100x, %v, wanted %.100s, %.100x, %v", s, shape(n), rest, e, want, wantRest, wantE)
	}
	sound(t, n)
	if wantE == api.OK && wantRest != "" {
		want, wantE = "", api.ErrForm
	}
	n, e = tlv.Whole(s)
	if e != wantE || e == api.OK && shape(n) != want || e != api.OK && !zero(n) {
		t.Errorf("Whole(%.100x) is %.100s, %v, wanted %.100s, %v", s, shape(n), e, want, wantE)
	}
}

// words calls with every text of the letters up to a length.
func words(letters string, most int, with func(string)) {
	with("")
	if most == 0 {
		return
	}
	for i := range len(letters) {
		words(letters, most-1, func(rest string) { with(letters[i:i+1] + rest) })
	}
}

// someBytes answers so many bytes.
func someBytes(r *rand.Rand, length int) string {
	out := make([]byte, length)
	r.Read(out)
	return string(out)
}

// someTag answers a tag of one byte, constructed or not.
func someTag(r *rand.Rand, constructed bool) int {
	tag := r.Intn(4)<<6 | r.Intn(31)
	if constructed {
		tag |= 0x20
	}
	return tag
}

// someNode answers a node of at most that depth.
func someNode(r *rand.Rand, depth int) api.Node {
	if depth == 1 || r.Intn(3) == 0 {
		return api.Node{Tag: someTag(r, false), Data: someBytes(r, []int{0, 1, 2, 5, 127, 128, 200, 255, 256, 300}[r.Intn(10)])}
	}
	n := api.Node{Tag: someTag(r, true)}
	for range r.Intn(5) {
		n.Kids = append(n.Kids, someNode(r, depth-1))
	}
	return n
}

// anyNode answers a node that may be none.
func anyNode(r *rand.Rand, depth int) api.Node {
	n := api.Node{Tag: []int{0x30, 0x30, 4, 4, 0xa0, 0x80, 0x1f, -1, 256, r.Int()}[r.Intn(10)]}
	if r.Intn(4) == 0 {
		n.Data = someBytes(r, r.Intn(4))
	}
	for range r.Intn(3) {
		if depth > 1 {
			n.Kids = append(n.Kids, anyNode(r, depth-1))
		}
	}
	return n
}

// all answers all that a node has as a text, whether it is one or not.
func all(n api.Node) string {
	var out strings.Builder
	out.WriteString(strconv.Itoa(n.Tag) + strconv.Quote(n.Data) + "[")
	for _, kid := range n.Kids {
		out.WriteString(all(kid))
	}
	return out.String() + "]"
}

package dn_test

import (
	"math/rand"
	"reflect"
	"regexp"
	"sort"
	"strconv"
	"strings"
	"testing"

	"castellan/api"
	"castellan/dn"
)

// is: a test fails, if something is another thing than was wanted.
func is[T comparable](t *testing.T, what string, got, want T) {
	t.Helper()
	if got != want {
		t.Errorf("%s: %v, wanted %v", what, got, want)
	}
}

// shape answers a name as a text in which nothing is left out.
func shape(d api.DN) string {
	var out strings.Builder
	for _, rdn := range d {
		for _, a := range rdn {
			out.WriteString(a.Type + ":" + strconv.Quote(a.Value) + " ")
		}
		out.WriteString("/ ")
	}
	return out.String()
}

// same tells whether two names are spelt alike.
func same(a, b api.DN) bool { return shape(a) == shape(b) && len(a) == len(b) }

// rdn answers an RDN of types and values, each type ahead of its value.
func rdn(words ...string) api.RDN {
	var out api.RDN
	for i := 0; i < len(words); i += 2 {
		out = append(out, api.AVA{Type: words[i], Value: words[i+1]})
	}
	return out
}

// one answers a name of one RDN of one type.
func one(name, value string) api.DN { return api.DN{rdn(name, value)} }

// many answers so many RDNs.
func many(rdns int) api.DN {
	var d api.DN
	for range rdns {
		d = append(d, api.RDN{{Type: "a", Value: "b"}})
	}
	return d
}

// wide answers an RDN of so many types.
func wide(types int) api.RDN {
	var rdn api.RDN
	for i := range types {
		rdn = append(rdn, api.AVA{Type: "t" + strconv.Itoa(i), Value: "v"})
	}
	return rdn
}

// copied answers the same name in other memory.
func copied(d api.DN) api.DN {
	var out api.DN
	for _, rdn := range d {
		out = append(out, append(api.RDN{}, rdn...))
	}
	return out
}

// Another way to read: by patterns.
var (
	typeForm  = regexp.MustCompile(`^([A-Za-z][A-Za-z0-9-]{0,31})=`)
	valueForm = regexp.MustCompile(`(?s)^(?:[^\x00"+,;<>\\]|\\["+,;<>\\ #=]|\\[0-9A-Fa-f]{2})*`)
	bareForm  = regexp.MustCompile(`^[ #]| $`)
	byteForm  = regexp.MustCompile(`(?s)\\([0-9A-Fa-f]{2}|.)`)
)

// plain is Parse's words said in another way.
func plain(s string) (api.DN, api.Errno) {
	if len(s) > 4096 {
		return nil, api.ErrLong
	}
	var d api.DN
	var rdn api.RDN
	types := map[string]bool{}
	for at := 0; s != ""; {
		if len(d) == 32 || len(rdn) == 8 {
			return nil, api.ErrMany
		}
		name := typeForm.FindStringSubmatch(s[at:])
		if name == nil {
			return nil, api.ErrForm
		}
		if types[strings.ToLower(name[1])] {
			return nil, api.ErrTwice
		}
		types[strings.ToLower(name[1])] = true
		at += len(name[0])
		value := valueForm.FindString(s[at:])
		at += len(value)
		if bareForm.MatchString(byteForm.ReplaceAllString(value, "x")) || at < len(s) && s[at] != '+' && s[at] != ',' {
			return nil, api.ErrForm
		}
		rdn = append(rdn, api.AVA{Type: name[1], Value: byteForm.ReplaceAllStringFunc(value, said)})
		if at == len(s) || s[at] == ',' {
			d, rdn, types = append(d, rdn), nil, map[string]bool{}
		}
		if at == len(s) {
			break
		}
		at++
	}
	return d, api.OK
}

// said answers what is said by a \ and what is behind it.
func said(written string) string {
	if n, err := strconv.ParseUint(written[1:], 16, 8); err == nil && len(written) == 3 {
		return string([]byte{byte(n)})
	}
	return written[1:]
}

// asPlain: Parse answers of s what plain answers; what it answers can be printed and read again.
func asPlain(t *testing.T, s string) {
	t.Helper()
	want, wantE := plain(s)
	d, e := dn.Parse(s)
	if e != wantE || !same(d, want) {
		t.Errorf("Parse(%q) is %s, %v, wanted %s, %v", s, shape(d), e, shape(want), wantE)
		return
	}
	key, keyE := dn.Key(s)
	is(t, "Key's error of "+strconv.Quote(s), keyE, wantE)
	if e != api.OK {
		is(t, "Key beside an error", key, "")
		return
	}
	norm, _ := dn.Norm(d)
	is(t, "Key of "+strconv.Quote(s), key, norm)
	again(t, d)
}

// Another way to write: marks, and blanks in a row.
var (
	marks    = strings.NewReplacer(`\`, `\\`, `"`, `\"`, "+", `\+`, ",", `\,`, ";", `\;`, "<", `\<`, ">", `\>`, "\x00", `\00`)
	blanks   = regexp.MustCompile(` +`)
	capitals = strings.NewReplacer("A", "a", "B", "b", "C", "c", "D", "d", "E", "e", "F", "f", "G", "g", "H", "h", "I", "i", "J", "j", "K", "k", "L", "l", "M", "m",
		"N", "n", "O", "o", "P", "p", "Q", "q", "R", "r", "S", "s", "T", "t", "U", "u", "V", "v", "W", "w", "X", "x", "Y", "y", "Z", "z")
)

// marked answers a value as it stands in a text.
func marked(v string) string {
	out := marks.Replace(v)
	if strings.HasPrefix(v, " ") || strings.HasPrefix(v, "#") {
		out = `\` + out
	}
	if len(v) > 1 && strings.HasSuffix(v, " ") {
		out = out[:len(out)-1] + `\ `
	}
	return out
}

// plainText is Print's words said in another way, of a name that can be printed; plainKey is Norm's.
func plainText(d api.DN) string {
	text := ""
	for i, rdn := range d {
		for j, a := range rdn {
			switch {
			case j > 0:
				text += "+"
			case i > 0:
				text += ","
			}
			text += a.Type + "=" + marked(a.Value)
		}
	}
	return text
}

func plainKey(d api.DN) string {
	var parts []string
	for _, rdn := range d {
		var texts []string
		for _, a := range rdn {
			texts = append(texts, capitals.Replace(a.Type)+"="+marked(strings.Trim(blanks.ReplaceAllString(capitals.Replace(a.Value), " "), " ")))
		}
		sort.Strings(texts)
		parts = append(parts, strings.Join(texts, "+"))
	}
	return strings.Join(parts, ",")
}

// again: P9.4 holds of a name that can be printed, and its text and its key are as said in another way.
func again(t *testing.T, d api.DN) {
	t.Helper()
	text, e := dn.Print(d)
	if e != api.OK {
		t.Errorf("Print(%s) is %v", shape(d), e)
		return
	}
	is(t, "the text of "+shape(d), text, plainText(d))
	if back, e := dn.Parse(text); e != api.OK || !same(back, d) {
		t.Errorf("Parse(%q) is %s, %v, wanted %s", text, shape(back), e, shape(d))
	}
	key, e := dn.Norm(d)
	if e != api.OK {
		t.Errorf("Norm(%s) is %v", shape(d), e)
	}
	is(t, "the key of "+shape(d), key, plainKey(d))
	if k, e := dn.Key(text); e != api.OK || k != key {
		t.Errorf("Key(%q) is %q, %v, wanted %q", text, k, e, key)
	}
	if k, e := dn.Key(key); e != api.OK || k != key {
		t.Errorf("Key(%q) is %q, %v, wanted itself", key, k, e)
	}
}

// words calls with every text of the letters up to a length.
func words(letters string, most int, with func(string)) {
	with("")
	if most == 0 {
		return
	}
	for i := range len(letters) {
		words(letters, most-1, func(rest string) { with(letters[i:i+1] + rest) })
	}
}

// someText answers a text of so many of the letters.
func someText(r *rand.Rand, letters string, length int) string {
	out := make([]byte, length)
	for i := range out {
		out[i] = letters[r.Intn(len(letters))]
	}
	return string(out)
}

// someName answers a name that can be printed.
func someName(r *rand.Rand) api.DN {
	var d api.DN
	for range r.Intn(5) {
		var rdn api.RDN
		for _, i := range r.Perm(4)[:1+r.Intn(4)] {
			name := []string{"cn", "OU", "a-b", "a1"}[i]
			rdn = append(rdn, api.AVA{Type: name, Value: someText(r, "aB \\\"+,;<>#=\x00\xff\n1", r.Intn(6))})
		}
		d = append(d, rdn)
	}
	return d
}

// unchanged: what was handed in is as it was, its spare room too.
func unchanged(t *testing.T, what string, d api.DN, with func(api.DN)) {
	t.Helper()
	room := make(api.DN, 0, len(d)+3)
	for _, rdn := range d {
		inner := make(api.RDN, 0, len(rdn)+3)
		room = append(room, append(inner, rdn...))
	}
	with(room)
	room = room[:cap(room)]
	for i, rdn := range room {
		if i >= len(d) {
			is(t, what+": spare RDN's types", len(rdn), 0)
			continue
		}
		rdn = rdn[:cap(rdn)]
		for _, spare := range rdn[len(d[i]):] {
			is(t, what+": a spare type", spare, api.AVA{})
		}
		if !reflect.DeepEqual(rdn[:len(d[i])], d[i]) {
			t.Errorf("%s: %v has become %v", what, d[i], rdn)
		}
	}
}

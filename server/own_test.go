package server_test

import (
	"strings"
	"testing"

	"castellan/api"
	"castellan/page"
	"castellan/schema"
)

// The attributes of the server itself, as the document has them.
const (
	contexts   = "namingContexts:dc=z"
	top        = "objectClass:top"
	subschema  = "subschemaSubentry:cn=subschema"
	controls   = "supportedControl:1.2.840.113556.1.4.319"
	extensions = "supportedExtension:1.3.6.1.4.1.4203.1.11.1|1.3.6.1.4.1.4203.1.11.3"
	version    = "supportedLDAPVersion:3"
)

// root answers how the server itself is told with these attributes.
func root(attrs ...string) string { return "entry  [" + strings.Join(attrs, " ") + "]" }

// P28.5: the server itself, whoever asks, also without entries.
func TestItself(t *testing.T) {
	w := opened(t, sample(t, ruled()).disk, config(ruled()), 0)
	whole := root(contexts, top, subschema, controls, extensions, version)
	for _, names := range [][]string{nil, {"*"}, {"+"}, {"*", "+"}, {"none", "+"}, {"objectClass", "*", "1.1"}} {
		w.wants("all of it", 1, searched("", 0, "(objectClass=*)", names...), whole, "search 0")
	}
	for want, names := range map[string][]string{
		root(top):                 {"objectClass"},
		root(contexts, version):   {"SUPPORTEDLDAPVERSION", "namingcontexts", "none"},
		root(subschema, controls): {"supportedcontrol", "subschemaSubentry", "supportedControl"},
		root(extensions):          {"supportedExtension"},
		root():                    {"1.1"},
	} {
		w.wants("some of it", 1, searched("", 0, "(objectClass=*)", names...), want, "search 0")
	}
	w.wants("by the empty name", 1, searched("", 0, "(objectClass=*)", ""), root(), "search 0")
	w.wants("nearly all", 1, searched("", 0, "(objectClass=*)", "**", " *", "objectClass*"), root(), "search 0")
	m := searched("", 0, "(objectClass=*)")
	m.TypesOnly = true
	w.wants("types alone", 1, m, root("namingContexts:", "objectClass:", "subschemaSubentry:", "supportedControl:", "supportedExtension:", "supportedLDAPVersion:"), "search 0")
	m.Names = []string{"objectclass"}
	w.wants("one type alone", 1, m, root("objectClass:"), "search 0")
	m.TypesOnly, m.Size, m.Time, m.Deref = false, 1, 1, 3
	w.wants("limits", 1, m, root(top), "search 0")
	w = opened(t, w.disk, config(func(c *api.Config) { c.Suffix = `DC=\7a` }), 0)
	w.wants("the suffix as it is printed", 1, searched("", 0, "(objectClass=*)", "namingContexts"), root("namingContexts:DC=z"), "search 0")
}

// P28.5: the filter is held against objectClass alone.
func TestItselfFilter(t *testing.T) {
	w := sample(t, ruled())
	for filter, so := range map[string]bool{
		"(objectClass=*)": true, "(OBJECTCLASS=TOP)": true, "(objectClass~= Top )": true, "(objectClass=t*p)": true, "(objectClass>=top)": true, "(objectClass<=top)": true, "(&)": true, "(!(objectClass=person))": true, "(|(cn=x)(objectClass=top))": true, "(!(cn=subschema))": true,
		"(objectClass=person)": false, "(objectClass>=toq)": false, "(objectClass<=too)": false, "(objectClass=x*)": false, "(|)": false, "(namingContexts=*)": false, "(!(namingContexts=*))": false, "(supportedLDAPVersion=3)": false, "(cn=*)": false, "(&(objectClass=top)(cn=*))": false, "(!(objectClass=top))": false,
	} {
		if so {
			w.wants(filter, 1, searched("", 0, filter, "objectClass"), root(top), "search 0")
		} else {
			w.wants(filter, 1, searched("", 0, filter, "objectClass"), "search 0")
		}
	}
}

// P28.5: what the filter isn't held against lacks, also where the schema has types of that name.
func TestOwnFilter(t *testing.T) {
	w := opened(t, newDisk(), config(func(c *api.Config) {
		for _, name := range []string{"namingContexts", "supportedLDAPVersion", "attributeTypes", "objectClasses"} {
			c.Schema.Types = append(c.Schema.Types, api.Type{Name: name, Syntax: api.Text})
		}
	}), 0)
	for _, name := range []string{"namingContexts", "supportedLDAPVersion", "attributeTypes", "objectClasses", "sn"} {
		for d, want := range map[string]string{"": root(top), "cn=subschema": "entry cn=subschema [objectClass:top]"} {
			w.wants(name+" is there", 1, searched(d, 0, "("+name+"=*)", "objectClass"), "search 0")
			w.wants(name+" lacks", 1, searched(d, 0, "(!("+name+"=*))", "objectClass"), want, "search 0")
		}
	}
	w.wants("cn lacks", 1, searched("", 0, "(!(cn=*))", "objectClass"), root(top), "search 0")
	w.wants("cn doesn't", 1, searched("cn=subschema", 0, "(!(cn=*))", "objectClass"), "search 0")
}

// P28.5: its schema, by each spelling of its name.
func TestTypes(t *testing.T) {
	w := sample(t, ruled())
	types, classes := schema.Lines(schema.Core())
	is(t, "a line", classes[6], "( group SUP top STRUCTURAL MUST ( cn $ member ) MAY ( description ) )")
	at, oc := "attributeTypes:"+strings.Join(types, "|"), "objectClasses:"+strings.Join(classes, "|")
	told := func(attrs ...string) string { return "entry cn=subschema [" + strings.Join(attrs, " ") + "]" }
	whole := told(at, "cn:subschema", top, oc)
	for _, d := range []string{"cn=subschema", "CN=SubSchema", `cn=sub\73chema`} {
		w.wants(d, 1, searched(d, 0, "(cn=SUBSCHEMA)"), whole, "search 0")
	}
	for _, names := range [][]string{{"*"}, {"+"}, {"none", "*"}} {
		w.wants("all of it", 1, searched("cn=subschema", 0, "(objectClass=top)", names...), whole, "search 0")
	}
	w.wants("some of it", 1, searched("cn=subschema", 0, "(cn=*)", "OBJECTCLASSES", "cn"), told("cn:subschema", oc), "search 0")
	w.wants("some of it", 1, searched("cn=subschema", 0, "(cn=*)", "objectClass", "attributetypes"), told(at, top), "search 0")
	w.wants("none of it", 1, searched("cn=subschema", 0, "(cn=*)", "1.1"), told(), "search 0")
	m := searched("cn=subschema", 0, "(cn=*)")
	m.TypesOnly = true
	w.wants("types alone", 1, m, told("attributeTypes:", "cn:", "objectClass:", "objectClasses:"), "search 0")
	for filter, so := range map[string]bool{
		"(&(cn=sub*)(objectClass=top))": true, "(cn>=subschema)": true, "(cn<=subschema)": true, "(!(cn=x))": true,
		"(cn=x)": false, "(cn>=t)": false, "(attributeTypes=*)": false, "(objectClasses=*)": false, "(sn=*)": false, "(!(cn=*))": false,
	} {
		if so {
			w.wants(filter, 1, searched("cn=subschema", 0, filter, "cn"), told("cn:subschema"), "search 0")
		} else {
			w.wants(filter, 1, searched("cn=subschema", 0, filter, "cn"), "search 0")
		}
	}
	small := opened(t, newDisk(), config(func(c *api.Config) { c.Schema, c.Indexed = one(), nil }), 0)
	small.wants("a schema without classes", 1, searched("cn=subschema", 0, "(objectClass=*)"), told("attributeTypes:( objectClass SYNTAX 3 )", "cn:subschema", top, "objectClasses:"), "search 0")
	small.wants("without the type cn", 1, searched("cn=subschema", 0, "(cn=*)"), "search 0")
}

// P28.5: a value that has no normal form is neither ahead of another one nor behind it.
func TestTypesOrder(t *testing.T) {
	for _, c := range []struct {
		syn                            int
		least, most, equal, unreadable string
	}{
		{api.Number, "(cn>=5)", "(cn<=5)", "(cn=5)", "(cn>=x)"},
		{api.Time, "(cn>=20240229120000Z)", "(cn<=20240229120000Z)", "(cn=20240229120000Z)", "(cn<=5)"},
	} {
		w := opened(t, newDisk(), config(func(x *api.Config) { x.Schema.Types[1].Syntax = c.syn }), 0)
		for _, filter := range []string{c.least, c.most, "(!" + c.equal + ")", "(cn=*)", "(&" + c.least + c.most + ")"} {
			w.wants(filter, 1, searched("CN=subschema", 0, filter, "cn"), "entry cn=subschema [cn:subschema]", "search 0")
		}
		for _, filter := range []string{c.equal, c.unreadable, "(!" + c.least + ")", "(!" + c.unreadable + ")", "(cn=subschema)", "(cn=sub*)"} {
			w.wants(filter, 1, searched("CN=subschema", 0, filter, "cn"), "search 0")
		}
	}
}

// P28.5: searches that are of neither: another scope, another name.
func TestNeither(t *testing.T) {
	w := sample(t)
	for _, scope := range []int{1, 2} {
		w.wants("beneath the empty name", 0, searched("", scope, "(objectClass=*)"), "search 32")
		w.wants("beneath the schema", 0, searched("cn=subschema", scope, "(objectClass=*)"), "search 32")
	}
	w.wants("lower than the schema", 0, searched("cn=a,cn=subschema", 0, "(objectClass=*)"), "search 32")
	w.wants("another name", 0, searched("cn=subschema,dc=z", 0, "(objectClass=*)"), "search 32 near DC=z")
	w.wants("no name", 0, searched("cn=subschema,", 0, "(objectClass=*)"), "search 34")
	w.wants("a blank", 0, searched(" ", 0, "(objectClass=*)"), "search 34")
	w = empty(t, func(c *api.Config) { c.Suffix = "cn=subschema" })
	w.does(0, added("cn=Subschema", "objectClass:person", "cn:subschema", "sn:n"))
	w.wants("the suffix of that name", 0, searched("cn=subschema", 2, "(cn=*)", "sn"), "entry cn=Subschema [sn:n]", "search 0")
	w.wants("the suffix of that name, alone", 0, searched("cn=subschema", 0, "(sn=n)", "sn"), "search 0")
	w.wants("the schema", 0, searched("cn=subschema", 0, "(objectClass=top)", "sn"), "entry cn=subschema []", "search 0")
}

// P28.5: controls play no part in these two, but Critical ones.
func TestOwnControls(t *testing.T) {
	w := sample(t)
	for _, d := range []string{"", "cn=subschema"} {
		m := searched(d, 0, "(objectClass=*)", "objectClass")
		want := "entry " + d + " [objectClass:top]"
		w.wants("pages", 1, paged(m, 1, ""), want, "search 0")
		w.wants("pages without a size", 1, paged(m, 0, ""), want, "search 0")
		w.wants("a cookie that is none", 1, paged(m, 1, "x"), want, "search 0")
		w.wants("pages without a value", 1, with(m, common(page.OID)), want, "search 0")
		w.wants("pages that are Critical", 1, with(m, critical(page.OID)), want, "search 0")
		w.wants("others", 1, with(m, common("1.2"), common("")), want, "search 0")
		w.wants("Critical ones", 1, with(m, critical("1.2")), "search 12")
		w.wants("Critical ones behind pages", 1, with(m, critical(page.OID), critical("1.2")), "search 12")
	}
}

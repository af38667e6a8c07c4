package schema

import "castellan/api"

// Core answers the schema of the chapter.
func Core() api.Schema { return api.Schema{Types: coreTypes(), Classes: coreClasses()} }

// coreTypes answers Core's types.
func coreTypes() []api.Type {
	return []api.Type{
		{Name: "objectClass", Syntax: api.Ascii},
		{Name: "cn", Syntax: api.Text},
		{Name: "sn", Syntax: api.Text},
		{Name: "ou", Syntax: api.Text},
		{Name: "o", Syntax: api.Text},
		{Name: "dc", Syntax: api.Ascii},
		{Name: "uid", Syntax: api.Ascii},
		{Name: "mail", Syntax: api.Ascii},
		{Name: "description", Syntax: api.Text},
		{Name: "member", Syntax: api.Name},
		{Name: "userPassword", Syntax: api.Octets},
		{Name: "employeeNumber", Syntax: api.Number, Single: true},
		{Name: "active", Syntax: api.Truth, Single: true},
		{Name: "createdAt", Syntax: api.Number, Single: true, Oper: true},
		{Name: "changedAt", Syntax: api.Number, Single: true, Oper: true},
		{Name: "pwdFailure", Syntax: api.Ascii, Oper: true},
		{Name: "pwdLocked", Syntax: api.Number, Single: true, Oper: true},
		{Name: "pwdChanged", Syntax: api.Number, Single: true, Oper: true},
	}
}

// coreClasses answers Core's classes.
func coreClasses() []api.Class {
	return []api.Class{
		{
			Name: "top", Kind: api.Abstract,
			Must: []string{"objectClass"},
			May:  []string{"createdAt", "changedAt", "pwdFailure", "pwdLocked", "pwdChanged"},
		},
		{Name: "domain", Sup: "top", Kind: api.Structural, Must: []string{"dc"}, May: []string{"description"}},
		{Name: "organization", Sup: "top", Kind: api.Structural, Must: []string{"o"}, May: []string{"description"}},
		{Name: "organizationalUnit", Sup: "top", Kind: api.Structural, Must: []string{"ou"}, May: []string{"description"}},
		{Name: "person", Sup: "top", Kind: api.Structural, Must: []string{"cn", "sn"}, May: []string{"description", "userPassword"}},
		{Name: "inetPerson", Sup: "person", Kind: api.Structural, May: []string{"uid", "mail", "employeeNumber", "active"}},
		{Name: "group", Sup: "top", Kind: api.Structural, Must: []string{"cn", "member"}, May: []string{"description"}},
		{Name: "secured", Sup: "top", Kind: api.Auxiliary, Must: []string{"userPassword"}},
		{Name: "labelled", Sup: "top", Kind: api.Auxiliary, May: []string{"uid", "mail"}},
	}
}

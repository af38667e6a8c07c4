package schema

import (
	"strconv"
	"strings"

	"castellan/api"
)

// Lines answers a line for each type, and one for each class, in order.
func Lines(s api.Schema) ([]string, []string) {
	var types, classes []string
	for _, t := range s.Types {
		types = append(types, typeLine(t))
	}
	for _, c := range s.Classes {
		classes = append(classes, classLine(c))
	}
	return types, classes
}

// typeLine answers a type's line.
func typeLine(t api.Type) string {
	line := "( " + t.Name + " SYNTAX " + strconv.Itoa(t.Syntax)
	if t.Single {
		line += " SINGLE-VALUE"
	}
	if t.Oper {
		line += " NO-USER-MODIFICATION"
	}
	return line + " )"
}

// classLine answers a class's line.
func classLine(c api.Class) string {
	line := "( " + c.Name
	if c.Sup != "" {
		line += " SUP " + c.Sup
	}
	return line + kindWord(c.Kind) + listed(" MUST", c.Must) + listed(" MAY", c.May) + " )"
}

// kindWord answers the word of a class's kind, a blank ahead of it; nothing, of a kind that is none.
func kindWord(kind int) string {
	switch kind {
	case api.Abstract:
		return " ABSTRACT"
	case api.Structural:
		return " STRUCTURAL"
	case api.Auxiliary:
		return " AUXILIARY"
	}
	return ""
}

// listed answers names behind their word; nothing, where there are none.
func listed(word string, names []string) string {
	if len(names) == 0 {
		return ""
	}
	return word + " ( " + strings.Join(names, " $ ") + " )"
}

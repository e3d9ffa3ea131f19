package lexer

// Reserved reports whether s is a reserved word.
func Reserved(s string) bool {
	switch s {
	case "use", "pub", "const", "fn", "type", "trait", "impl", "for", "macro", "let", "while",
		"if", "else", "print", "new", "true", "false", "int", "bool", "unit", "Self":
		return true
	}
	return false
}

// twoMark reports whether s is a mark of two bytes.
func twoMark(s string) bool {
	switch s {
	case "&&", "||", "==", "->":
		return true
	}
	return false
}

// oneMark reports whether a byte is a mark.
func oneMark(c byte) bool {
	switch c {
	case '(', ')', '{', '}', '<', '>', ',', ';', ':', '.', '=', '+', '-', '*', '/', '%', '!':
		return true
	}
	return false
}

package source

import "recompile/api"

// maxName is how many bytes the name of a module may have.
const maxName = 40

// permitted reports whether the name and the length of a module are permitted.
func permitted(s api.Source) bool {
	return validName(s.Name) && len(s.Text) <= api.MaxText
}

func validName(name string) bool {
	if len(name) == 0 || len(name) > maxName {
		return false
	}
	for i := range len(name) {
		if !starts(name[i]) && (i == 0 || !digit(name[i])) {
			return false
		}
	}
	return true
}

// starts reports whether a name can begin with a byte.
func starts(c byte) bool {
	return c >= 'A' && c <= 'Z' || c >= 'a' && c <= 'z' || c == '_'
}

func digit(c byte) bool { return c >= '0' && c <= '9' }

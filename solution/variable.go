package solution

import "recompile/api"

// IsVariable reports whether a type is a variable, whether or not it has a type.
func IsVariable(t api.Type) bool { return variable(t) >= 0 }

// variable returns the number of a variable; -1 for any other type.
func variable(t api.Type) int {
	if len(t.Args) > 0 || len(t.Name) < 2 || t.Name[0] != '?' {
		return -1
	}
	digits := t.Name[1:]
	if digits[0] == '0' && len(digits) > 1 {
		return -1
	}
	number := 0
	for i := range len(digits) {
		if digits[i] < '0' || digits[i] > '9' {
			return -1
		}
		number = number*10 + int(digits[i]-'0')
		if number > api.MaxVariable {
			return -1
		}
	}
	return number
}

// isNone reports whether a type is the zero type: a variable that gets it has none.
func isNone(t api.Type) bool { return t.Name == "" && len(t.Args) == 0 }

// list is where a list of types is: what is in it can be in many types, and many times in one.
type list struct {
	first *api.Type
	count int
}

// eachVariable calls a function with the number of each variable in a type, until it returns false, and reports whether it never did. It leaves out lists that were seen, and adds those that it sees.
func eachVariable(t *api.Type, seen map[list]bool, goOn func(number int) bool) bool {
	left := []*api.Type{t}
	for len(left) > 0 {
		last := len(left) - 1
		t, left = left[last], left[:last]
		if n := variable(*t); n >= 0 && !goOn(n) {
			return false
		}
		if len(t.Args) == 0 {
			continue
		}
		l := list{&t.Args[0], len(t.Args)}
		if seen[l] {
			continue
		}
		seen[l] = true
		for i := range t.Args {
			left = append(left, &t.Args[i])
		}
	}
	return true
}

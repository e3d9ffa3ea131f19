package fact

import (
	"strconv"

	"recompile/api"
	"recompile/types"
)

// Signature returns the string of a signature.
func Signature(x api.Signature) string {
	return Pack([]string{strconv.Itoa(x.Kind), list(x.Params, param), list(x.Names, text), list(x.Args, types.Print), types.Print(x.Result), x.Trait})
}

// ReadSignature returns the signature with a string, and whether there is one.
func ReadSignature(s string) (api.Signature, bool) {
	f := fieldsOf(s)
	return end(f, api.Signature{
		Kind:   next(f, readNumber),
		Params: next(f, listOf(readParam)),
		Names:  next(f, listOf(readText)),
		Args:   next(f, listOf(readType)),
		Result: next(f, readType),
		Trait:  next(f, readText),
	})
}

func param(p api.Param) string { return Pack([]string{p.Name, p.Bound}) }

func readParam(s string) (api.Param, bool) {
	f := fieldsOf(s)
	return end(f, api.Param{Name: next(f, readText), Bound: next(f, readText)})
}

// Headers returns the string of a list of headers.
func Headers(l []api.Header) string { return list(l, header) }

// ReadHeaders returns the headers with a string, and whether there are such headers.
func ReadHeaders(s string) ([]api.Header, bool) { return listOf(readHeader)(s) }

func header(h api.Header) string {
	return Pack([]string{h.Def, list(h.Params, param), h.Trait, types.Print(h.Type)})
}

func readHeader(s string) (api.Header, bool) {
	f := fieldsOf(s)
	return end(f, api.Header{
		Def:    next(f, readText),
		Params: next(f, listOf(readParam)),
		Trait:  next(f, readText),
		Type:   next(f, readType),
	})
}

func goal(g api.Goal) string { return Pack([]string{g.Trait, types.Print(g.Type)}) }

func readGoal(s string) (api.Goal, bool) {
	f := fieldsOf(s)
	return end(f, api.Goal{Trait: next(f, readText), Type: next(f, readType)})
}

package parser_test

import (
	"strings"

	"recompile/api"
	"recompile/lexer"
)

// grammar has the rules of the chapter, by which the tests read texts in another way. A ^ stands before what has a level greater by one.
// ASSIGNED is a NAME that is followed by "=". What comes behind the stmts of a block is one rule, so that there are not two ways to read each block in a block.
const grammar = `
item = use | const | fn | record | trait | impl | macro ;
use = "use" NAME ";" | "pub" "use" NAME ";" ;
const = "const" NAME ":" ^type "=" ^expr ";" ;
fn = "fn" NAME [ params ] "(" [ args ] ")" [ "->" ^type ] ^block ;
record = "type" NAME [ params ] "{" [ args ] "}" ;
trait = "trait" NAME [ ":" NAME { "+" NAME } ] "{" { sig } "}" ;
sig = "fn" NAME "(" [ selfargs ] ")" [ "->" ^selftype ] ";" ;
impl = "impl" [ params ] NAME "for" ^type "{" { fun } "}" ;
fun = "fn" NAME "(" [ args ] ")" [ "->" ^type ] ^block ;
macro = "macro" NAME "(" [ NAME { "," NAME } ] ")" "=" ^expr ";" ;
params = "<" param { "," param } ">" ;
param = NAME [ ":" NAME ] ;
args = arg { "," arg } ;
arg = NAME ":" ^type ;
selfargs = selfarg { "," selfarg } ;
selfarg = NAME ":" ^selftype ;
type = "int" | "bool" | "unit" | NAME [ "<" ^type { "," ^type } ">" ] ;
selftype = "int" | "bool" | "unit" | "Self" | NAME [ "<" ^selftype { "," ^selftype } ">" ] ;
expr = and { "||" and } ;
and = rel { "&&" rel } ;
rel = sum [ less sum ] ;
less = "<" | "==" ;
sum = prod { plus prod } ;
plus = "+" | "-" ;
prod = unary { times unary } ;
times = "*" | "/" | "%" ;
unary = minus ^unary | post ;
minus = "-" | "!" ;
post = primary { "." NAME } ;
primary = INT | "true" | "false" | NAME | NAME "(" [ list ] ")" | NAME "!" "(" [ list ] ")" | "new" NAME "(" [ list ] ")"
	| "(" ^expr ")" | "if" ^expr ^block "else" ^block | block ;
list = ^expr { "," ^expr } ;
block = "{" stmts "}" ;
stmts = { stmt } [ ^expr [ ";" stmts ] ] ;
stmt = "let" NAME "=" ^expr ";" | ASSIGNED "=" ^expr ";" | "while" ^expr ^block | "print" ^expr ";" ;
wholeexpr = ^expr END ;
wholetype = ^type END ;
`

// part is a part of a rule: something that is written out, or a sequence, a choice, or any number, of parts.
type part struct {
	kind  byte // a symbol 's', all '&', one '|', perhaps '[', any number '{'
	text  string
	parts []part
}

// grammarReader reads the rules.
type grammarReader struct{ words []string }

func (r *grammarReader) take() string {
	w := r.words[0]
	r.words = r.words[1:]
	return w
}

// choice reads parts up to what ends them.
func (r *grammarReader) choice(end string) part {
	out := part{kind: '|', parts: []part{{kind: '&'}}}
	for {
		last := &out.parts[len(out.parts)-1]
		switch w := r.take(); w {
		case end:
			return out
		case "|":
			out.parts = append(out.parts, part{kind: '&'})
		case "[":
			last.parts = append(last.parts, part{kind: '[', parts: []part{r.choice("]")}})
		case "{":
			last.parts = append(last.parts, part{kind: '{', parts: []part{r.choice("}")}})
		default:
			last.parts = append(last.parts, part{kind: 's', text: w})
		}
	}
}

func readGrammar() map[string]part {
	out := map[string]part{}
	r := &grammarReader{strings.Fields(grammar)}
	for len(r.words) > 0 {
		name := r.take()
		r.take()
		out[name] = r.choice(";")
	}
	return out
}

// rest is what must still come, the first part first.
type rest struct {
	part  part
	level int
	next  *rest
}

// reading is all that tokens so far can be the beginning of.
type reading struct {
	rules map[string]part
	ways  []*rest
}

// startReading begins with a rule.
func startReading(rules map[string]part, rule string) *reading {
	r := &reading{rules: rules}
	r.open(rules[rule], 0, nil)
	return r
}

// open adds the ways in which a part can begin with a token, or can be left out.
func (r *reading) open(p part, level int, next *rest) {
	switch p.kind {
	case '|':
		for _, q := range p.parts {
			r.open(q, level, next)
		}
	case '&':
		for i := len(p.parts) - 1; i > 0; i-- {
			next = &rest{p.parts[i], level, next}
		}
		r.open(p.parts[0], level, next)
	case '[':
		r.open(p.parts[0], level, next)
		r.close(next)
	case '{':
		r.open(p.parts[0], level, &rest{p, level, next})
		r.close(next)
	case 's':
		r.symbol(p, level, next)
	}
}

// close adds the ways in which it goes on behind a part.
func (r *reading) close(next *rest) {
	if next == nil {
		r.ways = append(r.ways, nil)
		return
	}
	r.open(next.part, next.level, next.next)
}

func (r *reading) symbol(p part, level int, next *rest) {
	name, deeper := strings.CutPrefix(p.text, "^")
	if deeper {
		level++
	}
	// What is too deep is a way, too, but one that goes on with no token: the next one is wrong, not the one before it.
	if body, ok := r.rules[name]; ok && level <= api.MaxDepth {
		r.open(body, level, next)
		return
	}
	r.ways = append(r.ways, &rest{p, level, next})
}

// matches reports whether a symbol stands for the first of some tokens.
func matches(symbol string, l []api.Token) bool {
	switch symbol {
	case "NAME":
		return l[0].Kind == api.TokName
	case "ASSIGNED":
		return l[0].Kind == api.TokName && l[1].Text == "="
	case "INT":
		return l[0].Kind == api.TokInt
	case "END":
		return l[0].Kind == api.TokEnd
	}
	return `"`+l[0].Text+`"` == symbol
}

// step goes on with the first of some tokens, and reports whether it can.
func (r *reading) step(l []api.Token) bool {
	ways := r.ways
	r.ways = nil
	for _, w := range ways {
		if w != nil && matches(w.part.text, l) {
			r.close(w.next)
		}
	}
	return len(r.ways) > 0
}

// done reports whether nothing needs to come.
func (r *reading) done() bool {
	for _, w := range r.ways {
		if w == nil {
			return true
		}
	}
	return false
}

// readBy returns how many tokens are one of a rule, and true; or how many come before the one with which none goes on, and false.
func readBy(rules map[string]part, rule string, l []api.Token) (int, bool) {
	r := startReading(rules, rule)
	for i := range l {
		if !r.step(l[i:]) {
			return i, false
		}
		if r.done() {
			return i + 1, true
		}
	}
	return len(l), false
}

// span says where an item begins and where it ends.
type span struct{ from, to int }

// expected returns the items of a text, and its errors.
func expected(rules map[string]part, text string) ([]span, []int) {
	l := lexer.Tokens(text)
	var items []span
	var errors []int
	for l[0].Kind != api.TokEnd {
		n, ok := readBy(rules, "item", l)
		if ok {
			items = append(items, span{l[0].At, l[n-1].At + len(l[n-1].Text)})
			l = l[n:]
			continue
		}
		errors = append(errors, l[n].At)
		for l = l[n:]; l[0].Kind != api.TokEnd && !beginsItem(l[0].Text); {
			l = l[1:]
		}
	}
	return items, errors
}

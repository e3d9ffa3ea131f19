package fact_test

import (
	"reflect"
	"strings"
	"testing"

	"recompile/api"
)

// checkRead tests that a Read function and the second one return the same, and reports whether something was read.
func checkRead(t *testing.T, k kind, s string) bool {
	t.Helper()
	got, ok := k.read(s)
	want, is := second(k, s)
	if ok != is || exact(got) != exact(want) {
		t.Fatalf("Read%s(%.300q) = %.300s, %v, expected %.300s, %v", k.name, s, exact(got), ok, exact(want), is)
	}
	return is
}

// checkWritten tests that a fact is written as the second way says, and read from that.
func checkWritten(t *testing.T, k kind, x any) {
	t.Helper()
	want := partOf(reflect.ValueOf(x)).String()
	if got := k.write(x); got != want {
		t.Fatalf("%s of %s = %q, expected %q", k.name, exact(x), got, want)
	}
	if got, ok := k.read(want); !ok || exact(got) != exact(x) {
		t.Fatalf("Read%s(%q) = %s, %v, expected %s", k.name, want, exact(got), ok, exact(x))
	}
}

// accidental returns an accidental fact.
func accidental(d *dice, k kind) any {
	v := reflect.New(k.of).Elem()
	d.fill(v, 4, d.many)
	return v.Interface()
}

func TestFactsAreReadAsTheyWere(t *testing.T) {
	d := &dice{10}
	for _, k := range kinds() {
		for _, x := range k.facts {
			checkWritten(t, k, x)
		}
		for range 3000 {
			checkWritten(t, k, accidental(d, k))
		}
	}
}

func TestOtherFacts(t *testing.T) {
	d := &dice{11}
	for _, of := range kinds() {
		strings := []string{"", "0:", "1:0", "0:0:", "4:0:0:", ":", "-1:", "21:0:4:true()", "int", "a", "0"}
		for _, x := range of.facts {
			strings = append(strings, of.write(x))
		}
		for range 50 {
			strings = append(strings, of.write(accidental(d, of)))
		}
		for _, k := range kinds() {
			for _, s := range strings {
				checkRead(t, k, s)
			}
		}
	}
}

func TestOneByte(t *testing.T) {
	const others = "0123456789:-+ ()<>,a_\x00\xff"
	for _, k := range kinds() {
		read := 0
		for _, x := range k.facts {
			s := k.write(x)
			for i := range len(s) + 1 {
				// the beginning and the end alone
				checkRead(t, k, s[:i])
				checkRead(t, k, s[i:])
				for _, b := range []byte(others) {
					checkRead(t, k, s[:i]+string([]byte{b})+s[i:])
					if i < len(s) && checkRead(t, k, s[:i]+string([]byte{b})+s[i+1:]) {
						read++
					}
				}
				if i < len(s) {
					checkRead(t, k, s[:i]+s[i+1:])
					checkRead(t, k, s[:i]+s[i:i+1]+s[i:])
				}
			}
		}
		if read == 0 {
			t.Errorf("%s: with another byte there was never a fact", k.name)
		}
	}
}

func TestSeveralBytes(t *testing.T) {
	d := &dice{12}
	for _, k := range kinds() {
		read := 0
		for range 20000 {
			s := k.write(accidental(d, k))
			for range 1 + d.roll(2) {
				i := d.roll(len(s) + 1)
				j := min(i+d.roll(3), len(s))
				s = s[:i] + d.pick("", "0", "1", "2", ":", "0:", "1:", "-", "a", "<", ",", "0:0:0:()") + s[j:]
			}
			if checkRead(t, k, s) {
				read++
			}
		}
		if read < 200 {
			t.Errorf("%s: %d facts were read", k.name, read)
		}
	}
}

// parts calls a function for each part of the string of a fact, with what writes the whole string.
func parts(x any, visit func(p *part, whole func() string)) {
	root := partOf(reflect.ValueOf(x))
	var walk func(p *part)
	walk = func(p *part) {
		visit(p, func() string { return root.String() })
		for i := range p.kids {
			walk(&p.kids[i])
		}
	}
	walk(&root)
}

// checkNothing tests that there is no fact with a string.
func checkNothing(t *testing.T, k kind, s string) {
	t.Helper()
	if got, ok := k.read(s); ok || exact(got) != exact(reflect.Zero(k.of).Interface()) {
		t.Fatalf("Read%s(%q) = %s, %v", k.name, s, exact(got), ok)
	}
	checkRead(t, k, s)
}

// In each pack of fields there are all of them, and no others; a list can have more or fewer elements.
func TestFieldsTooManyOrTooFew(t *testing.T) {
	packs := map[reflect.Type]bool{}
	for _, k := range kinds() {
		for _, x := range k.facts {
			parts(x, func(p *part, whole func() string) {
				if !p.isPack() {
					return
				}
				check := func() {
					t.Helper()
					if p.of.Kind() == reflect.Struct {
						checkNothing(t, k, whole())
					} else {
						checkRead(t, k, whole())
					}
				}
				packs[p.of] = true
				kids := p.kids
				for i := range len(kids) + 1 {
					for _, extra := range []string{"", "0", "a", "0:", "1:0", "0:0:0:()"} {
						p.kids = append(append(append([]part{}, kids[:i]...), part{of: reflect.TypeFor[string](), text: extra}), kids[i:]...)
						check()
					}
					if i < len(kids) {
						p.kids = append(append([]part{}, kids[:i]...), kids[i+1:]...)
						check()
						p.kids = append(append([]part{}, kids[:i+1]...), kids[i:]...)
						check()
					}
				}
				for _, p.kids = range [][]part{nil, append(append([]part{}, kids...), kids...)} {
					if len(kids) > 0 {
						check()
					}
				}
				p.kids = kids
			})
		}
	}
	if len(packs) != 19 {
		t.Errorf("%d types of packs were tried: %v", len(packs), packs)
	}
}

// leaves calls a function for each part of some type in the strings of all facts.
func leaves(t *testing.T, of reflect.Type, visit func(k kind, p *part, whole func() string)) {
	t.Helper()
	count := 0
	for _, k := range kinds() {
		for _, x := range k.facts {
			parts(x, func(p *part, whole func() string) {
				if p.of == of {
					text := p.text
					visit(k, p, whole)
					p.text = text
					count++
				}
			})
		}
	}
	if count < 5 {
		t.Errorf("there were %d parts of the type %s", count, of)
	}
}

// checkLeaf tests that a text is read at each place where a part of some type stands, or at none.
func checkLeaf(t *testing.T, of reflect.Type, texts []string, want bool) {
	t.Helper()
	leaves(t, of, func(k kind, p *part, whole func() string) {
		for _, p.text = range texts {
			if !want {
				checkNothing(t, k, whole())
			} else if got, ok := k.read(whole()); !ok || k.write(got) != whole() {
				t.Fatalf("Read%s(%.300q) = %.300s, %v", k.name, whole(), exact(got), ok)
			} else {
				checkRead(t, k, whole())
			}
		}
	})
}

func TestNumbers(t *testing.T) {
	number := reflect.TypeFor[int]()
	checkLeaf(t, number, []string{"0", "1", "-1", "9", "10", "-10", "42", "2147483647", "2147483648", "-2147483648", "-2147483649", "4294967296", "9223372036854775806", "9223372036854775807", "-9223372036854775807", "-9223372036854775808"}, true)
	checkLeaf(t, number, []string{
		"", "-", "+", "+0", "+1", "-0", "00", "01", "-01", "-00", "007", "--1", "+-1", "1-", "1+1",
		"9223372036854775808", "-9223372036854775809", "9223372036854775809", "10000000000000000000", "18446744073709551615", "18446744073709551616", "-18446744073709551616", "340282366920938463463374607431768211456", "-99999999999999999999999999",
		" 1", "1 ", "\n1", "1\x00", "1_0", "0_1", "1,0", "1.0", "1.", "1e3", "0x1", "0b1", "0o1", "a", "1a", "true", ":", "1:", "1:0", "0:", "\u0661", "\uff11", "\u22121",
	}, false)
}

func TestTypes(t *testing.T) {
	wide := func(n int) string { return "a<" + strings.Repeat("b,", n-2) + "b>" }
	deep := func(n int) string { return strings.Repeat("a<", n-1) + "b" + strings.Repeat(">", n-1) }
	checkLeaf(t, typeType, []string{"", "int", " ", "$T", "?0", "?1000001", ":", "0:", "1:a", "(", "a<b>", "a<b,c>", "m::P<m::L<int>,$T>", "\x00<\xff>", "::", deep(60), deep(400), wide(400)}, true)
	checkLeaf(t, typeType, []string{"<", ">", ",", "<>", "a<", "a<b", "a<>", "a<b>>", "a<b>c", "a,b", "<a>", "a<,b>", "a<b,>", "a<b,,c>", "a<<b>>", "a<b><c>", "a>", ",a", "a,", deep(60) + ">", deep(60)[1:]}, false)
	for _, k := range kinds() {
		if k.name == "Signature" {
			for _, text := range []string{wide(api.MaxNodes), deep(api.MaxNodes)} {
				if _, ok := k.read(pk("0", "", "", "", text, "")); !ok {
					t.Error("a type of MaxNodes nodes was not read")
				}
			}
			for _, text := range []string{wide(api.MaxNodes + 1), deep(api.MaxNodes + 1), wide(2 * api.MaxNodes)} {
				checkNothing(t, k, pk("0", "", "", "", text, ""))
				checkNothing(t, k, pk("0", "", "", pk("int", text, "int"), "", ""))
			}
		}
	}
}

func TestTrees(t *testing.T) {
	checkLeaf(t, treeType, []string{"0:0:0:()", "21:0:4:true()", "-1:-2:1:)()", "1:2:3:(:)()", "40:0:0:(21:0:4:true()20:1:1:0())", "0:0:0:(0:0:0:(0:0:0:()0:0:0:()))", "9223372036854775807:-9223372036854775808:0:()", "99:0:2:\x00\xff()"}, true)
	checkLeaf(t, treeType, []string{"", " ", "0", ":", "0:0:0:", "0:0:0:(", "0:0:0:)", "0:0:0:())", "0:0:0:()x", "0:0:0:()0:0:0:()", "x0:0:0:()", "00:0:0:()", "0:+1:0:()", "0:0:-0:()", "0:0:1:()", "0:0:1:a", "21:0:3:true()", "21:0:5:true()", "0:0:0:(a)", "0:0:0:(0:0:0:()", ":0:0:()", "9223372036854775808:0:0:()", "0:-9223372036854775809:0:()", "0:0:()", "true()"}, false)
}

func TestTexts(t *testing.T) {
	checkLeaf(t, reflect.TypeFor[string](), []string{"", "a", "0", "-0", "00", ":", "0:", "1:a", "1:", "\x00", "\xff\xfe", "<", ",", "(", " ", "\n", "\u00e4", "a<b,c>", strings.Repeat("1:", 60), strings.Repeat("x", 1234)}, true)
}

package shape_test

import (
	"math"
	"strconv"
	"strings"
	"testing"

	"recompile/api"
	"recompile/shape"
)

// textOf returns the text of a tree as the chapter says it.
func textOf(t api.Tree) string {
	var kids strings.Builder
	for _, k := range t.Kids {
		kids.WriteString(textOf(k))
	}
	return strconv.Itoa(t.Kind) + ":" + strconv.Itoa(t.At) + ":" + strconv.Itoa(len(t.Text)) + ":" + t.Text + "(" + kids.String() + ")"
}

// example is a tree with its text.
type example struct {
	tree api.Tree
	text string
}

func examples() []example {
	return []example{
		{tree(api.KBool, "true", 0), "21:0:4:true()"},
		{api.Tree{}, "0:0:0:()"},
		{tree(api.KInt, "7", 12), "20:12:1:7()"},
		{tree(-1, "", -10), "-1:-10:0:()"},
		{tree(math.MaxInt, "", math.MinInt), "9223372036854775807:-9223372036854775808:0:()"},
		{tree(math.MinInt, "", math.MaxInt), "-9223372036854775808:9223372036854775807:0:()"},
		{tree(1, "(", 0), "1:0:1:(()"},
		{tree(1, ")", 0), "1:0:1:)()"},
		{tree(1, ":", 0), "1:0:1::()"},
		{tree(1, "()", 0), "1:0:2:()()"},
		{tree(1, "0:0:0:()", 0), "1:0:8:0:0:0:()()"},
		{tree(1, "\x00\xff", 0), "1:0:2:\x00\xff()"},
		{tree(1, "é", 0), "1:0:2:é()"},
		{tree(1, "12", 3), "1:3:2:12()"},
		{tree(1, "aaaaaaaaaa", 3), "1:3:10:aaaaaaaaaa()"},
		{tree(0, "", 0, api.Tree{}), "0:0:0:(0:0:0:())"},
		{tree(0, "", 0, api.Tree{}, api.Tree{}), "0:0:0:(0:0:0:()0:0:0:())"},
		{tree(28, "+", 1, tree(20, "1", 2), tree(27, "-", 3, tree(22, "ab", -4))), "28:1:1:+(20:2:1:1()27:3:1:-(22:-4:2:ab()))"},
	}
}

func TestEncodeAndDecode(t *testing.T) {
	for _, c := range examples() {
		if got := shape.Encode(c.tree); got != c.text {
			t.Errorf("Encode: %q, expected %q", got, c.text)
		}
		if got, ok := shape.Decode(c.text); !ok || !sameTree(got, c.tree) {
			t.Errorf("Decode(%q) = %s, %v", c.text, shown(got), ok)
		}
	}
}

func TestEncodeAndDecodeOfAnyTree(t *testing.T) {
	d := &dice{3}
	for n := range 5000 {
		x := anyTree(d, 1+n%50)
		text := shape.Encode(x)
		if text != textOf(x) {
			t.Fatalf("Encode: %q, expected %q", text, textOf(x))
		}
		if got, ok := shape.Decode(text); !ok || !sameTree(got, x) {
			t.Fatalf("Decode(%q) = %s, %v", text, shown(got), ok)
		}
	}
	for _, x := range someTrees() {
		if got, ok := shape.Decode(shape.Encode(x)); !ok || !sameTree(got, x) || shape.Encode(x) != textOf(x) {
			t.Errorf("Decode(Encode(%s)) = %s, %v", shown(x), shown(got), ok)
		}
	}
}

func TestEveryByteInATextOfANode(t *testing.T) {
	for b := range 256 {
		for _, text := range []string{string([]byte{byte(b)}), string([]byte{'a', byte(b), '('}), strings.Repeat(string([]byte{byte(b)}), 100)} {
			x := tree(5, text, 6, tree(7, text, 8))
			if got, ok := shape.Decode(shape.Encode(x)); !ok || !sameTree(got, x) || shape.Encode(x) != textOf(x) {
				t.Errorf("Decode(Encode(%s)) = %s, %v", shown(x), shown(got), ok)
			}
		}
	}
}

func TestEqualTreesAndOnlyTheyHaveEqualTexts(t *testing.T) {
	l := someTrees()
	for _, a := range l {
		for _, b := range l {
			if got, want := shape.Encode(a) == shape.Encode(b), sameTree(a, b); got != want {
				t.Errorf("equal texts: %v, equal trees: %v: %s and %s", got, want, shown(a), shown(b))
			}
		}
	}
}

func checkNoText(t *testing.T, s string) {
	t.Helper()
	if got, ok := shape.Decode(s); ok || !isZero(got) {
		t.Errorf("Decode(%.200q) = %s, %v", s, shown(got), ok)
	}
}

// notNumbers are texts that no number is written as.
func notNumbers() []string {
	return []string{
		"", "-", "+", "+1", "+0", "-0", "00", "01", "007", "-01", "--1", "-+1", " 1", "1 ", "\n1", "1_0", "0x1", "1e1", "1.0", "a", "1a", "½", "\x00", "1\x00", "(", ")",
		"9223372036854775808", "-9223372036854775809", "18446744073709551616", "99999999999999999999", "-99999999999999999999", strings.Repeat("0", 100), strings.Repeat("1", 1000),
	}
}

func TestDecodeOfNumbersThatAreNone(t *testing.T) {
	for _, s := range notNumbers() {
		for _, text := range []string{s + ":0:0:()", "0:" + s + ":0:()", "0:0:" + s + ":()", "0:0:" + s + ":a()", "0:0:" + s + "::()"} {
			checkNoText(t, text)
			checkNoText(t, "1:2:1:a("+text+")")
			checkNoText(t, "1:2:1:a(0:0:0:()"+text+"0:0:0:())")
		}
	}
}

func TestDecodeOfWrongLengths(t *testing.T) {
	for _, n := range []string{"-1", "-2", "0", "1", "3", "4", "5", "6", "7", "100", "9223372036854775807", "-9223372036854775808"} {
		checkNoText(t, "0:0:"+n+":ab()")
		checkNoText(t, "0:0:0:(0:0:"+n+":ab())")
	}
	for _, s := range []string{"0:0:1:", "0:0:1:(", "0:0:1:()", "0:0:1:(()(", "0:0:2:()(", "0:0:0:a()", "0:0:8:0:0:0:()", "0:0:-1:()", "0:0:1:a", "0:0:1:a(", "0:0:1:a)"} {
		checkNoText(t, s)
	}
}

func TestDecodeOfTextsThatNoTreeHas(t *testing.T) {
	for _, s := range []string{
		"", " ", ":", "::", ":::", ":::()", "()", "(", ")", "0", "0:", "0:0", "0:0:", "0:0:0", "0:0:0:", "0:0:0:(", "0:0:0:)", "0:0:0:)(", "0:0:0:((", "0:0:0:[]", "0:0:0:{}",
		"0:0:0:()0:0:0:()", "0:0:0:())", "0:0:0:()(", "0:0:0:() ", " 0:0:0:()", "0:0:0:( )", "0:0:0:()\n", "0:0:0:()\x00",
		"0;0:0:()", "0:0;0:()", "0:0:0;()", "0:0:()", "0:()", "0:0:0:0:()", "0 :0:0:()", "0: 0:0:()", "0:0: 0:()", "0:0:0: ()",
		"0:0:0:(0:0:0:()", "0:0:0:(0:0:0:)", "0:0:0:(0:0:0:(0:0:0:())", "0:0:0:(0:0:0:(0:0:0:()", "0:0:0:(0:0:0:(", "0:0:0:(,)", "0:0:0:(0:0:0:(),0:0:0:())", "0:0:0:(0:0:0:() 0:0:0:())",
		"0:0:0:(0)", "0:0:0:(0:0:0:()0)", "0:0:0:(())", "0:0:0:()()", "true", "21:0:4:true", "21:0:4:true(", "21:0:4:tru()", "21:0:3:true()", "21:0:5:true()", "21:0:04:true()",
	} {
		checkNoText(t, s)
	}
}

func TestDecodeOfLongTextsThatNoTreeHas(t *testing.T) {
	const many = 1 << 16
	for _, s := range []string{"0:0:0:(", "0:0:0:()", "(", ")", ":", "0:", "0", "-", "0:0:1:("} {
		checkNoText(t, strings.Repeat(s, many))
	}
	checkNoText(t, strings.Repeat("0:0:0:(", many)+strings.Repeat(")", many-1))
	checkNoText(t, strings.Repeat("0:0:0:(", many)+strings.Repeat(")", many+1))
}

// checkDecode tests a text that may have a tree or none: one that has the text.
func checkDecode(t *testing.T, s string) {
	t.Helper()
	if got, ok := shape.Decode(s); ok && textOf(got) != s || !ok && !isZero(got) {
		t.Errorf("Decode(%q) = %s, %v", s, shown(got), ok)
	}
}

func TestDecodeOfChangedTexts(t *testing.T) {
	for _, c := range examples() {
		s := c.text
		for i := range len(s) + 1 {
			if i < len(s) {
				checkNoText(t, s[:i])
				checkDecode(t, s[i:])
				checkDecode(t, s[:i]+s[i+1:])
				checkDecode(t, s[:i]+s[i:i+1]+s[i:])
			}
			for _, b := range []string{"0", "1", "9", "-", "+", ":", "(", ")", "a", " ", "\x00", "\xff", "0:0:0:()"} {
				checkDecode(t, s[:i]+b+s[i:])
				checkDecode(t, s[:i]+b+s[min(i+1, len(s)):])
			}
		}
	}
}

// node is what a text of eight bytes is that a tree has: one digit for each number, and no Text.
func node(s string) (api.Tree, bool) {
	digit := func(i int) bool { return s[i] >= '0' && s[i] <= '9' }
	if len(s) != 8 || !digit(0) || !digit(2) || s[1:2]+s[3:] != "::0:()" {
		return api.Tree{}, false
	}
	return tree(int(s[0]-'0'), "", int(s[2]-'0')), true
}

func TestDecodeOfEveryShortText(t *testing.T) {
	t.Parallel()
	const signs = "01-:()"
	texts := []string{""}
	for range 8 {
		for _, s := range texts {
			want, is := node(s)
			if got, ok := shape.Decode(s); ok != is || !sameTree(got, want) {
				t.Fatalf("Decode(%q) = %s, %v", s, shown(got), ok)
			}
		}
		var longer []string
		for _, s := range texts {
			for i := range len(signs) {
				longer = append(longer, s+signs[i:i+1])
			}
		}
		texts = longer
	}
	for _, s := range texts {
		want, is := node(s)
		if got, ok := shape.Decode(s); ok != is || !sameTree(got, want) {
			t.Fatalf("Decode(%q) = %s, %v", s, shown(got), ok)
		}
	}
}

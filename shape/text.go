package shape

import (
	"recompile/api"
	"strconv"
	"strings"
)

// Encode returns the text of a tree.
func Encode(t api.Tree) string {
	var out strings.Builder
	encode(&out, t)
	return out.String()
}

func encode(out *strings.Builder, t api.Tree) {
	for _, n := range []int{t.Kind, t.At, len(t.Text)} {
		out.WriteString(strconv.Itoa(n))
		out.WriteByte(':')
	}
	out.WriteString(t.Text)
	out.WriteByte('(')
	for _, k := range t.Kids {
		encode(out, k)
	}
	out.WriteByte(')')
}

// Decode returns the tree with a text, and whether there is one.
func Decode(s string) (api.Tree, bool) {
	d := &decoder{left: s}
	t := d.node()
	if d.failed || d.left != "" {
		return api.Tree{}, false
	}
	return t, true
}

// decoder reads the text of a tree.
type decoder struct {
	left   string // what is not read yet
	failed bool   // whether what was read is not as in the text of a tree
}

func (d *decoder) node() api.Tree {
	var t api.Tree
	t.Kind = d.number()
	t.At = d.number()
	t.Text = d.bytes(d.number())
	if !d.took("(") {
		d.failed = true
	}
	for !d.failed && !d.took(")") {
		t.Kids = append(t.Kids, d.node())
	}
	return t
}

// number reads a number and the colon behind it.
func (d *decoder) number() int {
	digits, behind, found := strings.Cut(d.left, ":")
	n, err := strconv.Atoi(digits)
	// Atoi reads "+1", "01" and "-0", too, which no number is written as.
	if !found || err != nil || strconv.Itoa(n) != digits {
		d.failed = true
		return 0
	}
	d.left = behind
	return n
}

// bytes reads a number of bytes.
func (d *decoder) bytes(n int) string {
	if n < 0 || n > len(d.left) {
		d.failed = true
		return ""
	}
	s := d.left[:n]
	d.left = d.left[n:]
	return s
}

// took reads a mark if it comes next.
func (d *decoder) took(mark string) bool {
	behind, is := strings.CutPrefix(d.left, mark)
	d.left = behind
	return is
}

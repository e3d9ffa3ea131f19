package evaluate_test

import (
	"math"
	"slices"
	"strconv"
	"strings"
	"testing"

	"recompile/api"
)

// A record is the number of records that were made up to it.
func TestRecords(t *testing.T) {
	checkMain(t, "main 0/3: r0 = new(), print r0, r1 = new(r0), print r1, r2 = new(r0 r1), return r2", "1 2 value 3")
	checkMain(t, "main 0/3: r0 = 7, r1 = 8, r2 = new(r0 r1 r0), r0 = r2.0, print r0, r0 = r2.1, print r0, r0 = r2.2, return r0", "7 8 value 7")
	// numbers stay as they were when it was made
	checkMain(t, "main 0/3: r0 = 7, r1 = new(r0), r0 = 8, r2 = new(r0), r0 = r1.0, print r0, r0 = r2.0, return r0", "7 value 8")
	checkMain(t, "main 0/2: r0 = 7, r0 = new(r0 r0), r1 = r0.1, return r1", "value 7")
	// they are those of all frames, and stay when a frame is left
	checkMain(t, "main 0/3: r0 = call f(), print r0, r1 = call f(), print r1, r2 = new(r0 r1), print r2, r0 = r2.1, r0 = r0.0, return r0; f 0/1: r0 = 5, r0 = new(r0), return r0", "1 2 3 value 5")
	checkMain(t, "main 0/2: r0 = 4, r0 = new(r0 r1), r0 = call f(r0), return r0; f 1/1: r0 = r0.0, return r0", "value 4")
	// any number is a record if so many were made
	checkMain(t, "main 0/2: r0 = 9, r0 = new(r0), r1 = 1, r1 = r1.0, return r1", "value 9")
	// two records with the same numbers are two
	checkMain(t, "main 0/3: r0 = new(), r1 = new(), r2 = r0 == r1, return r2", "value 0")
}

func TestLoads(t *testing.T) {
	const made = "main 1/5: r1 = 40, r2 = 50, r3 = new(r1 r2), r3 = new(), r3 = new(r2 r1 r3), print r3, "
	for _, c := range []struct {
		record, field int
		want          string
	}{
		{1, 0, "40"}, {1, 1, "50"}, {3, 0, "50"}, {3, 1, "40"}, {3, 2, "2"},
		{1, 2, ""}, {1, 3, ""}, {1, -1, ""}, {2, 0, ""}, {2, -1, ""}, {2, 1, ""}, {3, 3, ""}, {3, -1, ""}, {3, -3, ""}, {0, 0, ""}, {-1, 0, ""}, {4, 0, ""}, {5, 0, ""}, {-2, 0, ""}, {-3, 1, ""}, {math.MaxInt, 0, ""}, {math.MinInt, 0, ""}, {1, math.MaxInt, ""}, {1, math.MinInt, ""}, {1<<32 + 1, 0, ""}, {1, 1 << 32, ""},
	} {
		want := "3 value " + c.want
		if c.want == "" {
			want = "3 bad"
		}
		j := main(made+"r4 = r0.0, return r4", "", c.record)
		j.units[0].Code.Ops[6].C = c.field
		j.check(t, want)
	}
	// a record that will be made later, and none at all
	checkMain(t, "main 0/2: r0 = 1, r0 = r0.0, r1 = new(r0), return r1", "bad")
	checkMain(t, "main 0/2: r1 = r0.0, return r1", "bad")
	main("main 1/2: r1 = r0.0, return r1", "", 1).check(t, "bad")
}

// list writes n registers.
func list(n int) string {
	return strings.TrimSpace(strings.Repeat("r0 ", n))
}

// Records have at most MaxCells cells, each one more than it has numbers.
func TestCells(t *testing.T) {
	for _, c := range []struct {
		sizes []int
		want  string
	}{
		{[]int{api.MaxCells - 1}, "value 1"}, {[]int{api.MaxCells}, "cells"}, {[]int{api.MaxCells + 1}, "cells"}, {[]int{api.MaxCells - 2, 0}, "value 2"}, {[]int{api.MaxCells - 2, 1}, "1 cells"}, {[]int{api.MaxCells - 1, 0}, "1 cells"}, {[]int{0, api.MaxCells - 2}, "value 2"}, {[]int{0, api.MaxCells - 1}, "1 cells"},
		{[]int{9999, 9998, 0}, "value 3"}, {[]int{9999, 9999}, "value 2"}, {[]int{9999, 9999, 0}, "1 2 cells"}, {[]int{9999, 10000}, "1 cells"}, {[]int{0, 0, 0, api.MaxCells - 4}, "value 4"}, {[]int{0, 0, 0, api.MaxCells - 3}, "1 2 3 cells"}, {[]int{6665, 6666, 6666, 0}, "1 2 3 cells"}, {[]int{6665, 6666, 6665, 0}, "value 4"},
	} {
		text := "main 0/1: "
		for i, n := range c.sizes {
			if i > 0 {
				text += "print r0, "
			}
			text += "r0 = new(" + list(n) + "), "
		}
		want := c.want
		if strings.HasPrefix(want, "value") {
			want = ""
			for i := range len(c.sizes) - 1 {
				want += strconv.Itoa(i+1) + " "
			}
			want += c.want
		}
		checkMain(t, text+"return r0", want)
	}
}

// Records without numbers have a cell, too; so have those of frames that were left.
func TestCellsOfManyRecords(t *testing.T) {
	const many = "main 1/3: r1 = 1, zero r0 6, MADE, r0 = r0 - r1, zero r0 6, go 2, return r2"
	for made, size := range map[string]int{"r2 = new()": 1, "r2 = new(r0)": 2, "r2 = new(r0 r0 r0)": 4, "r2 = call f(r0)": 2, "r2 = call g()": 1} {
		text := strings.Replace(many, "MADE", made, 1) + "; f 1/1: r0 = new(r0), return r0; g 0/1: r0 = new(), return r0"
		n := api.MaxCells / size
		main(text, "", n).check(t, "value "+strconv.Itoa(n))
		main(text, "", n+1).check(t, "cells")
	}
	// what is no record has none
	j := main(strings.Replace(many, "MADE", "r2 = r0 + r1", 1), "", 40000)
	j.check(t, "value 2")
}

// A load finds the last field of the longest record.
func TestLongRecords(t *testing.T) {
	c := of("0/20000: r0 = new(r0), return r0")
	c.Ops[0].List = nil
	for i := range 19999 {
		c.Ops[0].List = append(c.Ops[0].List, i+1)
	}
	var ops []api.Op
	for i := 1; i < 20000; i++ {
		ops = append(ops, api.Op{Kind: api.OpConst, A: i, C: 3 * i})
	}
	c.Ops = slices.Concat(ops, c.Ops)
	for field, want := range map[int]string{0: "value 3", 1: "value 6", 9998: "value 29997", 19998: "value 59997", 19999: "bad", 20000: "bad"} {
		load := api.Op{Kind: api.OpLoad, C: field}
		code := api.Code{Regs: c.Regs, Ops: slices.Insert(slices.Clone(c.Ops), len(c.Ops)-1, load)}
		job{units: []api.Unit{{Sym: "long", Code: code}}, sym: "long", steps: api.MaxSteps}.check(t, want)
	}
}

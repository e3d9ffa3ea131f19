package lower_test

import "testing"

// Where the first Kid decides, the second one is not run.
func TestAndOr(t *testing.T) {
	for value, want := range map[string]string{
		"binary &&(bool true, bool false)": "0/3: r0 = 1, r1 = r0, zero r1 5, r2 = 0, r1 = r2, return r1",
		"binary ||(bool true, bool false)": "0/4: r0 = 1, r1 = r0, r2 = !r1, zero r2 6, r3 = 0, r1 = r3, return r1",
		"binary &&(bool true)":             "0/3: r0 = 1, r1 = r0, zero r1 5, r2 = global, r1 = r2, return r1",
		"binary ||(bool true)":             "0/4: r0 = 1, r1 = r0, r2 = !r1, zero r2 6, r3 = global, r1 = r3, return r1",
		"binary &&":                        "0/3: r0 = global, r1 = r0, zero r1 5, r2 = global, r1 = r2, return r1",
		"binary ||":                        "0/4: r0 = global, r1 = r0, r2 = !r1, zero r2 6, r3 = global, r1 = r3, return r1",
		"binary &&(binary &&(bool true, bool true), bool false)":                          "0/5: r0 = 1, r1 = r0, zero r1 5, r2 = 1, r1 = r2, r3 = r1, zero r3 9, r4 = 0, r3 = r4, return r3",
		"binary &&(bool true, binary &&(bool true, bool false))":                          "0/5: r0 = 1, r1 = r0, zero r1 9, r2 = 1, r3 = r2, zero r3 8, r4 = 0, r3 = r4, r1 = r3, return r1",
		"binary ||(binary &&(bool true, bool true), bool false)":                          "0/6: r0 = 1, r1 = r0, zero r1 5, r2 = 1, r1 = r2, r3 = r1, r4 = !r3, zero r4 10, r5 = 0, r3 = r5, return r3",
		"binary &&(bool true, binary ||(bool true, bool false))":                          "0/6: r0 = 1, r1 = r0, zero r1 10, r2 = 1, r3 = r2, r4 = !r3, zero r4 9, r5 = 0, r3 = r5, r1 = r3, return r1",
		"binary ||(bool true, block(print(int 1), binary ==(int 1, int 2)))":              "0/7: r0 = 1, r1 = r0, r2 = !r1, zero r2 10, r3 = 1, print r3, r4 = 1, r5 = 2, r6 = r4 == r5, r1 = r6, return r1",
		"unary !(binary &&(bool true, binary <(int 1, int 2)))":                           "0/6: r0 = 1, r1 = r0, zero r1 7, r2 = 1, r3 = 2, r4 = r2 < r3, r1 = r4, r5 = !r1, return r5",
		"block(let x@0(bool true), do(binary ||(local x@0, bad)), binary &&(bad, unit))":  "0/9: r0 = 1, r1 = r0, r2 = r1, r3 = r2, r4 = !r3, zero r4 8, r5 = global, r3 = r5, r6 = global, r7 = r6, zero r7 13, r8 = 0, r7 = r8, return r7",
		"if(binary &&(bool true, bool false), int 1, int 2)":                              "0/6: r0 = 1, r1 = r0, zero r1 5, r2 = 0, r1 = r2, zero r1 9, r4 = 1, r3 = r4, go 11, r5 = 2, r3 = r5, return r3",
		"block(while(binary ||(bool true, bool false), print(int 1)), unit)":              "0/6: r0 = 1, r1 = r0, r2 = !r1, zero r2 6, r3 = 0, r1 = r3, zero r1 10, r4 = 1, print r4, go 0, r5 = 0, return r5",
		"call p::f(binary &&(bool true, bool false), binary ||(call p::g, call p::h))":    "0/8: r0 = 1, r1 = r0, zero r1 5, r2 = 0, r1 = r2, r3 = call p::g(), r4 = r3, r5 = !r4, zero r5 11, r6 = call p::h(), r4 = r6, r7 = call p::f(r1 r4), return r7",
		"binary &&(if(bool true, bool true, bool false), block(let x@0(int 1), unit))":    "0/8: r0 = 1, zero r0 5, r2 = 1, r1 = r2, go 7, r3 = 0, r1 = r3, r4 = r1, zero r4 13, r5 = 1, r6 = r5, r7 = 0, r4 = r7, return r4",
		"binary ||(block(while(bool true, unit), bool true), block(print(int 1), unit))":  "0/7: r0 = 1, zero r0 4, r1 = 0, go 0, r2 = 1, r3 = r2, r4 = !r3, zero r4 12, r5 = 1, print r5, r6 = 0, r3 = r6, return r3",
		"binary -(binary &&(bool true, bool true), binary &&(bool false, unary -(unit)))": "0/8: r0 = 1, r1 = r0, zero r1 5, r2 = 1, r1 = r2, r3 = 0, r4 = r3, zero r4 11, r5 = 0, r6 = -r5, r4 = r6, r7 = r1 - r4, return r7",
	} {
		checkValue(t, value, want)
	}
}

func TestIf(t *testing.T) {
	for value, want := range map[string]string{
		"if(bool true, int 1, int 2)":   "0/4: r0 = 1, zero r0 5, r2 = 1, r1 = r2, go 7, r3 = 2, r1 = r3, return r1",
		"if x(bool true, int 1, int 2)": "0/4: r0 = 1, zero r0 5, r2 = 1, r1 = r2, go 7, r3 = 2, r1 = r3, return r1",
		"if(bool true, int 1)":          "0/4: r0 = 1, zero r0 5, r2 = 1, r1 = r2, go 7, r3 = global, r1 = r3, return r1",
		"if(bool true)":                 "0/4: r0 = 1, zero r0 5, r2 = global, r1 = r2, go 7, r3 = global, r1 = r3, return r1",
		"if":                            "0/4: r0 = global, zero r0 5, r2 = global, r1 = r2, go 7, r3 = global, r1 = r3, return r1",
		"if(bad, bad, bad)":             "0/4: r0 = global, zero r0 5, r2 = global, r1 = r2, go 7, r3 = global, r1 = r3, return r1",
		// one within the other, in each place
		"if(if(bool true, bool true, bool false), int 1, int 2)":                         "0/7: r0 = 1, zero r0 5, r2 = 1, r1 = r2, go 7, r3 = 0, r1 = r3, zero r1 11, r5 = 1, r4 = r5, go 13, r6 = 2, r4 = r6, return r4",
		"if(bool true, if(bool false, int 1, int 2), int 3)":                             "0/7: r0 = 1, zero r0 11, r2 = 0, zero r2 7, r4 = 1, r3 = r4, go 9, r5 = 2, r3 = r5, r1 = r3, go 13, r6 = 3, r1 = r6, return r1",
		"if(bool true, int 3, if(bool false, int 1, int 2))":                             "0/7: r0 = 1, zero r0 5, r2 = 3, r1 = r2, go 13, r3 = 0, zero r3 10, r5 = 1, r4 = r5, go 12, r6 = 2, r4 = r6, r1 = r4, return r1",
		"block(do(if(bool true, block(print(int 1), unit), block(int 2, unit))), int 3)": "0/7: r0 = 1, zero r0 7, r2 = 1, print r2, r3 = 0, r1 = r3, go 10, r4 = 2, r5 = 0, r1 = r5, r6 = 3, return r6",
		"binary +(if(bool true, int 1, int 2), int 3)":                                   "0/6: r0 = 1, zero r0 5, r2 = 1, r1 = r2, go 7, r3 = 2, r1 = r3, r4 = 3, r5 = r1 + r4, return r5",
		"binary +(int 3, if(bool true, int 1, int 2))":                                   "0/6: r0 = 3, r1 = 1, zero r1 6, r3 = 1, r2 = r3, go 8, r4 = 2, r2 = r4, r5 = r0 + r2, return r5",
		"if(bool true, block(while(bool false, unit), int 1), int 2)":                    "0/6: r0 = 1, zero r0 9, r2 = 0, zero r2 6, r3 = 0, go 2, r4 = 1, r1 = r4, go 11, r5 = 2, r1 = r5, return r1",
	} {
		checkValue(t, value, want)
	}
}

func TestWhile(t *testing.T) {
	for value, want := range map[string]string{
		"block(while(bool true, int 1), int 2)":        "0/3: r0 = 1, zero r0 4, r1 = 1, go 0, r2 = 2, return r2",
		"block(int 5, while x(bool true, int 1), bad)": "0/4: r0 = 5, r1 = 1, zero r1 5, r2 = 1, go 1, r3 = global, return r3",
		"block(while(bool true), int 2)":               "0/3: r0 = 1, zero r0 4, r1 = global, go 0, r2 = 2, return r2",
		"block(while, int 2)":                          "0/3: r0 = global, zero r0 4, r1 = global, go 0, r2 = 2, return r2",
		// one within the other, in both places
		"block(while(bool true, block(while(bool false, int 1), unit)), int 2)": "0/5: r0 = 1, zero r0 8, r1 = 0, zero r1 6, r2 = 1, go 2, r3 = 0, go 0, r4 = 2, return r4",
		"block(while(block(while(bool true, int 1), bool false), unit), int 2)": "0/5: r0 = 1, zero r0 4, r1 = 1, go 0, r2 = 0, zero r2 8, r3 = 0, go 0, r4 = 2, return r4",
		"block(while(bool true, int 1), while(bool false, int 2), int 3)":       "0/5: r0 = 1, zero r0 4, r1 = 1, go 0, r2 = 0, zero r2 8, r3 = 2, go 4, r4 = 3, return r4",
		"block(while(bool true, if(bool false, int 1, int 2)), int 3)":          "0/6: r0 = 1, zero r0 10, r1 = 0, zero r1 7, r3 = 1, r2 = r3, go 9, r4 = 2, r2 = r4, go 0, r5 = 3, return r5",
		"block(while(binary <(int 1, int 2), print(int 3)), unit)":              "0/5: r0 = 1, r1 = 2, r2 = r0 < r1, zero r2 7, r3 = 3, print r3, go 0, r4 = 0, return r4",
		// it has no value, and needs none of its second Kid
		"block(while(bool true, let x@0(int 1)), local x@0)": "0/4: r0 = 1, zero r0 5, r1 = 1, r2 = r1, go 0, r3 = r2, return r3",
	} {
		checkValue(t, value, want)
	}
}

package modules_test

import (
	"slices"
	"testing"

	"recompile/modules"
	"recompile/shape"
)

func TestAgain(t *testing.T) {
	for text, want := range map[string][]int{
		"":                                                                   nil,
		"fn a(){}":                                                           nil,
		"fn a(){} fn b(){}":                                                  nil,
		"fn a(){} fn a(){}":                                                  {9},
		"fn a(){} fn a(){} fn a(){}":                                         {9, 18},
		"fn b(){} fn a(){} fn b(){} fn a(){}":                                {18, 27},
		"fn a(){} const a:b=c;":                                              {9},
		"const a:b=c; type a{}":                                              {13},
		"type a{} macro a()=b;":                                              {9},
		"macro a()=b; trait a{}":                                             {13},
		"trait a{} fn a(){}":                                                 {10},
		"use a; use a; pub use a; fn a(){}":                                  nil,
		"fn a(b:c){let a=d;a} type b{a:b,a:b}":                               nil,
		"fn a<a>(a:a){} macro b(b,b)=b;":                                     nil,
		"trait a{fn b();}":                                                   nil,
		"trait a{fn a();}":                                                   {8},
		"trait a{fn b();fn b();}":                                            {15},
		"trait a{fn b();fn b();fn c();fn b();}":                              {15, 29},
		"trait a{fn b();fn a();fn b();} fn b(){}":                            {15, 22, 31},
		"trait a{fn b();} trait a{fn b();}":                                  {17, 25},
		"trait a{fn b();} trait b{fn a();}":                                  {17, 25},
		"trait a{fn b();} trait c{fn b();}":                                  {25},
		"trait a{fn b();} trait a{fn c();}":                                  {17},
		"trait a{fn b(b:b)->b;} const b:c=d;":                                {23},
		"impl a for b{}":                                                     nil,
		"impl a for b{} impl a for b{}":                                      {15},
		"impl a for b{} impl a for c{}":                                      nil,
		"impl a for b{} impl c for b{}":                                      nil,
		"impl a for b{} impl a for b<c>{}":                                   nil,
		"impl a for b<c>{} impl<c> a for b<c>{}":                             {18},
		"impl a for b{fn f(){}}":                                             nil,
		"impl a for b{fn f(){} fn f(){}}":                                    {22},
		"impl a for b{fn f(){} fn g(){} fn f(){} fn g(){} fn f(){}}":         {31, 40, 49},
		"impl a for b{fn f(){}} impl a for b{fn f(){}}":                      {23, 36},
		"impl a for b{fn f(){}} impl a for b{fn g(){}}":                      {23},
		"impl a for b{} impl a for b{fn f(){}} impl a for b{fn f(){}}":       {15, 38, 51},
		"impl a for b{fn f(){}} impl a for c{fn f(){}}":                      nil,
		"impl a for b{fn f(){}} impl c for b{fn f(){}} fn f(){}":             nil,
		"fn f(){} trait f{fn f();} impl f for f{fn f(){} fn f(){}} type f{}": {9, 17, 48, 58},
		"type f{} trait g{fn h();fn f();} use f; fn h(){} impl g for f{fn h(){}} fn g(){}": {24, 40, 72},
	} {
		if got := modules.Again(parsed(t, text)); !slices.Equal(got, want) {
			t.Errorf("%s: %v", text, got)
		}
	}
}

// The order is that of the nodes, not that of their places.
func TestAgainKeepsTheOrderOfNodes(t *testing.T) {
	items := parsed(t, "fn a(){} fn b(){} fn a(){} trait b{fn a();fn b();}")
	slices.Reverse(items)
	if got := modules.Again(items); !slices.Equal(got, []int{42, 18, 9, 0}) {
		t.Errorf("items in reversed order: %v", got)
	}
	for i, item := range items {
		items[i] = shape.Strip(item)
	}
	if got := modules.Again(items); !slices.Equal(got, []int{0, 0, 0, 0}) {
		t.Errorf("items without places: %v", got)
	}
}

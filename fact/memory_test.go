package fact_test

import (
	"reflect"
	"slices"
	"sync"
	"testing"

	"recompile/api"
	"recompile/fact"
)

// room is how many elements roomy lists have behind their end.
const room = 3

// roomy returns a value whose lists have room behind their end, with something there.
func roomy(v reflect.Value) reflect.Value {
	out := clone(v)
	eachList(out, func(l reflect.Value) {
		long := reflect.MakeSlice(l.Type(), l.Len()+room, l.Len()+room)
		reflect.Copy(long, l)
		for i := range room {
			mark(long.Index(l.Len() + i))
		}
		l.Set(long.Slice(0, l.Len()))
	})
	return out
}

// mark sets a value to what no fact has.
func mark(v reflect.Value) {
	switch v.Kind() {
	case reflect.Int:
		v.SetInt(987654321)
	case reflect.String:
		v.SetString("behind")
	case reflect.Struct:
		for i := range v.NumField() {
			mark(v.Field(i))
		}
	}
}

// markAll marks the elements of a list, and what is behind them.
func markAll(l reflect.Value) {
	l = l.Slice(0, l.Cap())
	for i := range l.Len() {
		mark(l.Index(i))
	}
}

// eachList calls a function for each list in a value, and then for those in it.
func eachList(v reflect.Value, visit func(l reflect.Value)) {
	if v.Kind() == reflect.Slice {
		visit(v)
	} else if v.Kind() != reflect.Struct {
		return
	}
	for i := range size(v) {
		eachList(at(v, i), visit)
	}
}

// whole writes a value with what is behind its lists.
func whole(v reflect.Value) string {
	s := exact(v.Interface())
	eachList(v, func(l reflect.Value) { s += "; " + exact(l.Slice(0, l.Cap()).Interface()) })
	return s
}

func TestArgumentsStay(t *testing.T) {
	d := &dice{14}
	for _, k := range kinds() {
		l := k.facts
		for range 200 {
			l = append(l, accidental(d, k))
		}
		for _, x := range l {
			v := roomy(reflect.ValueOf(x))
			was := whole(v)
			s := k.write(v.Interface())
			if got := whole(v); got != was {
				t.Fatalf("%s made %s of %s", k.name, got, was)
			}
			if s != k.write(x) {
				t.Fatalf("%s of %s = %q, without room %q", k.name, exact(x), s, k.write(x))
			}
		}
	}
	list := append(make([]string, 0, 5), "a", "", "1:b", "behind", "behind")[:3]
	if s := fact.Pack(list); s != "1:a0:3:1:b" || !slices.Equal(list[:5], []string{"a", "", "1:b", "behind", "behind"}) {
		t.Errorf("Pack = %q made %q", s, list[:5])
	}
}

// A string does not change when what it was made of changes.
func TestStringsStay(t *testing.T) {
	for _, k := range kinds() {
		for _, x := range k.facts {
			v := clone(reflect.ValueOf(x))
			s, want := k.write(v.Interface()), k.write(x)
			eachList(v, markAll)
			if s != want {
				t.Errorf("%q became %q", want, s)
			}
		}
	}
}

// area is the memory of a list with the room behind it.
type area struct{ begin, end uintptr }

func areas(v reflect.Value) []area {
	var out []area
	eachList(v, func(l reflect.Value) {
		if l.Cap() > 0 {
			out = append(out, area{l.Pointer(), l.Pointer() + uintptr(l.Cap())*l.Type().Elem().Size()})
		}
	})
	return out
}

// areShared reports whether two of some areas have memory in common.
func areShared(l []area) bool {
	slices.SortFunc(l, func(a, b area) int {
		if a.begin < b.begin {
			return -1
		}
		return 1
	})
	for i := range l {
		if i > 0 && l[i].begin < l[i-1].end {
			return true
		}
	}
	return false
}

func TestResultsShareNothing(t *testing.T) {
	d := &dice{15}
	for _, k := range kinds() {
		l := k.facts
		for range 300 {
			l = append(l, accidental(d, k))
		}
		for _, x := range l {
			s := k.write(x)
			one, _ := k.read(s)
			two, _ := k.read(s)
			if areShared(append(areas(reflect.ValueOf(one)), areas(reflect.ValueOf(two))...)) {
				t.Fatalf("two results of Read%s(%q) share memory with each other, or in themselves", k.name, s)
			}
			eachList(reflect.ValueOf(one), markAll)
			three, _ := k.read(s)
			if exact(two) != exact(x) || exact(three) != exact(x) {
				t.Fatalf("after a change of another result Read%s(%q) = %s, and again %s", k.name, s, exact(two), exact(three))
			}
		}
	}
	one, _ := fact.Unpack("1:a0:1:b")
	two, _ := fact.Unpack("1:a0:1:b")
	one = one[:cap(one)]
	for i := range one {
		one[i] = "spoilt"
	}
	if !slices.Equal(two, []string{"a", "", "b"}) {
		t.Errorf("after a change of another result there is %q", two)
	}
}

// One fact can stand in two places of another, with the same memory.
func TestPartsOfAnArgumentCanShareMemory(t *testing.T) {
	args := []api.Type{ty("a"), ty("b")}
	args[1].Args = args[:1]
	x := api.Signature{Args: args, Result: api.Type{Name: "P", Args: args}, Names: []string{"n"}}
	checkFact(t, fact.Signature, fact.ReadSignature, x, "1:00:3:1:n9:1:a4:b<a>9:P<a,b<a>>0:")
}

// No state is kept: a call returns the same after others, and beside others.
func TestCallsDoNotDependOnOthers(t *testing.T) {
	type call struct {
		kind kind
		fact any
		s    string
	}
	var l []call
	d := &dice{16}
	for _, k := range kinds() {
		for range 100 {
			x := accidental(d, k)
			l = append(l, call{k, x, k.write(x)})
		}
	}
	var wait sync.WaitGroup
	for w := range 4 {
		wait.Go(func() {
			for n := range l {
				c := l[(n*7+w*31)%len(l)]
				got, ok := c.kind.read(c.s)
				if !ok || exact(got) != exact(c.fact) || c.kind.write(c.fact) != c.s {
					t.Errorf("%s after other calls: %s", c.kind.name, exact(got))
					return
				}
				if _, ok := c.kind.read(c.s + "0"); ok {
					t.Errorf("Read%s of %q", c.kind.name, c.s+"0")
					return
				}
			}
		})
	}
	wait.Wait()
}

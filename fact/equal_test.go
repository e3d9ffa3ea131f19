package fact_test

import (
	"reflect"
	"testing"

	"recompile/api"
)

// changes calls a function with each value that differs from a value in one place.
func changes(v reflect.Value, visit func()) {
	old := reflect.New(v.Type()).Elem()
	old.Set(v)
	set := func(x any) {
		if exact(x) != exact(old.Interface()) {
			v.Set(reflect.ValueOf(x))
			visit()
			v.Set(old)
		}
	}
	switch x := v.Interface().(type) {
	case int:
		for _, n := range []int{x + 1, x - 1, -x, 10 * x, 0, 1, -1 << 63, 1<<63 - 1} {
			set(n)
		}
		return
	case string:
		for _, s := range []string{"", x + " ", "0" + x, "a", ":" + x, x + x, "1:a", "?"} {
			set(s)
		}
		return
	case api.Type:
		for _, y := range []api.Type{{}, ty("a"), ty("a", ty("b")), ty("a", ty("b"), ty("b")), ty("L", ty("a", ty(x.Name+"y", x.Args...))), {Name: x.Name}, {Name: x.Name + "x", Args: x.Args}} {
			set(y)
		}
		return
	case api.Tree:
		for _, y := range []api.Tree{{}, tree(x.Kind+1, x.Text, x.At, x.Kids...), tree(x.Kind, x.Text+"0", x.At, x.Kids...), tree(x.Kind, x.Text, x.At+1, x.Kids...), tree(x.Kind, x.Text, x.At, x), tree(x.Kind, x.Text, x.At, append([]api.Tree{{}}, x.Kids...)...)} {
			set(y)
		}
		return
	}
	if v.Kind() == reflect.Slice {
		listChanges(v, set)
	}
	for i := range size(v) {
		changes(at(v, i), visit)
	}
}

// listChanges makes other lists of a list: longer, shorter, and in another order.
func listChanges(v reflect.Value, set func(x any)) {
	of := v.Type()
	zero := reflect.Zero(of.Elem())
	empty := reflect.Zero(of)
	set(empty.Interface())
	set(reflect.Append(reflect.AppendSlice(empty, v), zero).Interface())
	set(reflect.AppendSlice(reflect.Append(empty, zero), v).Interface())
	set(reflect.AppendSlice(reflect.AppendSlice(empty, v), v).Interface())
	for i := range v.Len() {
		set(reflect.AppendSlice(reflect.AppendSlice(empty, v.Slice(0, i)), v.Slice(i+1, v.Len())).Interface())
		if i > 0 {
			other := reflect.AppendSlice(empty, v)
			other.Index(i - 1).Set(v.Index(i))
			other.Index(i).Set(v.Index(i - 1))
			set(other.Interface())
		}
	}
}

// clone returns a value that shares no memory with another one.
func clone(v reflect.Value) reflect.Value {
	out := reflect.New(v.Type()).Elem()
	switch v.Kind() {
	case reflect.Int, reflect.String:
		out.Set(v)
		return out
	case reflect.Slice:
		out.Set(reflect.MakeSlice(v.Type(), v.Len(), v.Len()))
	}
	for i := range size(v) {
		at(out, i).Set(clone(at(v, i)))
	}
	return out
}

// A fact that differs in one place has another string, and is read from that.
func TestEachFieldIsWritten(t *testing.T) {
	for _, k := range kinds() {
		for _, x := range k.facts {
			v, was := clone(reflect.ValueOf(x)), k.write(x)
			count := 0
			changes(v, func() {
				s := k.write(v.Interface())
				if s == was {
					t.Fatalf("%s of %s and of %s are both %q", k.name, exact(x), exact(v.Interface()), s)
				}
				if got, ok := k.read(s); !ok || exact(got) != exact(v.Interface()) {
					t.Fatalf("Read%s(%q) = %s, %v, expected %s", k.name, s, exact(got), ok, exact(v.Interface()))
				}
				count++
			})
			if count == 0 || exact(v.Interface()) != exact(x) {
				t.Errorf("%d changes of %s, and then %s", count, exact(x), exact(v.Interface()))
			}
		}
	}
}

func TestEqualFactsHaveEqualStrings(t *testing.T) {
	d := &dice{13}
	for _, k := range kinds() {
		facts, strings, twice := map[string]string{}, map[string]string{}, 0
		for range 20000 {
			v := reflect.New(k.of).Elem()
			d.fill(v, 3, d.few)
			x, s := exact(v.Interface()), k.write(v.Interface())
			if old, is := facts[s]; is && old != x {
				t.Fatalf("%s and %s have both the string %q", old, x, s)
			}
			if old, is := strings[x]; is && old != s {
				t.Fatalf("%s has the strings %q and %q", x, old, s)
			} else if is {
				twice++
			}
			facts[s], strings[x] = x, s
		}
		if twice < 1000 || len(facts) < 91 {
			t.Errorf("%s: %d different facts, %d came twice", k.name, len(facts), twice)
		}
	}
}

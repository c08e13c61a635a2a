package clone_test

import (
	"cipherplan/api"
	"cipherplan/clone"
	"reflect"
	"testing"
)

// full returns a value of a type all of whose slices have two elements, and all of whose numbers differ from 0.
func full(t reflect.Type) reflect.Value {
	v := reflect.New(t).Elem()
	switch t.Kind() {
	case reflect.Int:
		v.SetInt(7)
	case reflect.String:
		v.SetString("x")
	case reflect.Bool:
		v.SetBool(true)
	case reflect.Slice:
		v = reflect.Append(v, full(t.Elem()), full(t.Elem()))
	case reflect.Struct:
		for i := range t.NumField() {
			v.Field(i).Set(full(t.Field(i).Type))
		}
	}
	return v
}

// shared reports whether two values of one type, of equal lengths, share memory.
func shared(a, b reflect.Value) bool {
	switch a.Kind() {
	case reflect.Slice:
		if a.Pointer() == b.Pointer() {
			return true
		}
		for i := range a.Len() {
			if shared(a.Index(i), b.Index(i)) {
				return true
			}
		}
	case reflect.Struct:
		for i := range a.NumField() {
			if shared(a.Field(i), b.Field(i)) {
				return true
			}
		}
	}
	return false
}

// check checks that a function copies values.
func check[T any](t *testing.T, f func(T) T) {
	v := full(reflect.TypeFor[T]())
	c := reflect.ValueOf(f(v.Interface().(T)))
	if !reflect.DeepEqual(v.Interface(), c.Interface()) || shared(v, c) {
		t.Errorf("%s is not copied", v.Type())
	}
	var zero T
	if !reflect.DeepEqual(f(zero), zero) {
		t.Errorf("the zero %s is not copied", v.Type())
	}
}

func TestCopies(t *testing.T) {
	check(t, clone.Certificate)
	check(t, clone.Certificates)
	check(t, clone.Entry)
	check(t, clone.Identity)
	check(t, clone.Endpoint)
	check(t, clone.Endpoints)
	check(t, clone.Item)
	check(t, clone.Estate)
	check(t, clone.Exception)
	check(t, clone.Owners)
	check(t, clone.Policy)
	check(t, clone.Change)
	check(t, clone.Changes)
	check(t, clone.Plan)
	check(t, clone.Run)
	check(t, clone.Host)
	check(t, clone.World)
	check(t, func(l []api.Item) []api.Item { return clone.Each(l, clone.Item) })
}

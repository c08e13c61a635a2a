package audit_test

import (
	"fmt"
	"reflect"
	"testing"
)

// memory is where a slice lies.
type memory struct{ from, to uintptr }

// slicesOf returns where all slices within a value lie.
func slicesOf(v reflect.Value) []memory {
	var l []memory
	switch v.Kind() {
	case reflect.Slice:
		if v.Cap() > 0 {
			l = append(l, memory{v.Pointer(), v.Pointer() + uintptr(v.Cap())*v.Type().Elem().Size()})
		}
		for i := range v.Len() {
			l = append(l, slicesOf(v.Index(i))...)
		}
	case reflect.Struct:
		for i := range v.NumField() {
			l = append(l, slicesOf(v.Field(i))...)
		}
	}
	return l
}

// apart checks that a call changes no argument, and that its result shares memory with none, and no two of its slices do (R3).
func apart[T any](t *testing.T, name string, call func() T, args ...any) {
	t.Helper()
	before := fmt.Sprintf("%#v", args)
	result := slicesOf(reflect.ValueOf(call()))
	if after := fmt.Sprintf("%#v", args); after != before {
		t.Errorf("%s changes an argument: %s, %s", name, before, after)
	}
	var given []memory
	for _, a := range args {
		given = append(given, slicesOf(reflect.ValueOf(a))...)
	}
	for i, m := range result {
		for _, n := range append(given, result[:i]...) {
			if m.from < n.to && n.from < m.to {
				t.Errorf("%s: a result shares memory", name)
				return
			}
		}
	}
}

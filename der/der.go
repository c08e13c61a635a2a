// Package der is layer 1: see shared/doc/01-der.md.
package der

import (
	"cipherplan/api"
	"slices"
)

// Tags of the elements that are made of values.
const (
	tagBool = 1
	tagInt  = 2
	tagText = 12
	tagList = 48
)

// Encode returns the bytes of an element.
func Encode(v api.Value) ([]byte, api.Errno) {
	b, ok := appendElements(nil, 1, v)
	if ok {
		return b, api.OK
	}
	// Where a limit stopped it, an element that is not well formed may come later, and that error comes first.
	if shaped, _ := look(v); !shaped {
		return nil, api.ErrForm
	}
	return nil, api.ErrLimit
}

// Decode returns the element that bytes are.
func Decode(b []byte) (api.Value, api.Errno) {
	if len(b) > api.MaxBytes {
		return api.Value{}, api.ErrLimit
	}
	l, depth, ok := readElements(b)
	if !ok || len(l) != 1 {
		return api.Value{}, api.ErrForm
	}
	if depth > api.MaxDepth {
		return api.Value{}, api.ErrLimit
	}
	return l[0], api.OK
}

// All returns the elements that bytes are, one behind the other.
func All(b []byte) ([]api.Value, api.Errno) {
	if len(b) > api.MaxBytes {
		return nil, api.ErrLimit
	}
	l, depth, ok := readElements(b)
	if !ok {
		return nil, api.ErrForm
	}
	if depth > api.MaxDepth {
		return nil, api.ErrLimit
	}
	return l, api.OK
}

// Int returns the element of a number.
func Int(n int) api.Value {
	b := []byte{byte(n)}
	for n < -128 || n > 127 {
		n >>= 8
		b = append(b, byte(n))
	}
	slices.Reverse(b)
	return api.Value{Tag: tagInt, Bytes: b}
}

// AsInt returns the number of an element.
func AsInt(v api.Value) (int, api.Errno) {
	n := number(v.Bytes)
	if !Same(v, Int(n)) {
		return 0, api.ErrForm
	}
	return n, api.OK
}

// Text returns the element of a text.
func Text(s string) api.Value {
	return api.Value{Tag: tagText, Bytes: []byte(s)}
}

// AsText returns the text of an element.
func AsText(v api.Value) (string, api.Errno) {
	s := string(v.Bytes)
	if !Same(v, Text(s)) || slices.ContainsFunc(v.Bytes, unprintable) {
		return "", api.ErrForm
	}
	return s, api.OK
}

// Bool returns the element of a truth value.
func Bool(b bool) api.Value {
	if b {
		return api.Value{Tag: tagBool, Bytes: []byte{255}}
	}
	return api.Value{Tag: tagBool, Bytes: []byte{0}}
}

// AsBool returns the truth value of an element.
func AsBool(v api.Value) (bool, api.Errno) {
	for _, b := range []bool{false, true} {
		if Same(v, Bool(b)) {
			return b, api.OK
		}
	}
	return false, api.ErrForm
}

// List returns the element of a list. It is empty if the elements cannot be copied: they have no end, or are too many.
func List(l []api.Value) api.Value {
	v := api.Value{Tag: tagList, Nested: true}
	if _, small := look(l...); small {
		v.Elements = copied(l)
	}
	return v
}

// AsList returns the list of an element.
func AsList(v api.Value) ([]api.Value, api.Errno) {
	shaped, small := look(v)
	if v.Tag != tagList || !shaped || !small {
		return nil, api.ErrForm
	}
	return copied(v.Elements), api.OK
}

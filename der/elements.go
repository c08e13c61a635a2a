package der

import (
	"bytes"
	"cipherplan/api"
	"slices"
)

// isTag reports whether a number is a tag.
func isTag(t int) bool {
	return t >= 1 && t <= 255 && t&31 != 31
}

// isNested reports whether elements with a tag consist of elements.
func isNested(t int) bool {
	return t&32 != 0
}

// hasShape reports whether an element is well formed, but for what is within it.
func hasShape(v api.Value) bool {
	if !isTag(v.Tag) || v.Nested != isNested(v.Tag) {
		return false
	}
	if v.Nested {
		return len(v.Bytes) == 0
	}
	return len(v.Elements) == 0
}

// most is how many bytes of memory elements may take to be copied. No input has more (rule R8); but elements that are shared, or within themselves, can stand for more than any memory has room for.
const most = 1<<31 - 1

// own is how many bytes of memory an element takes without its contents.
const own = 64

// open stands for the size of what is within an element, while it is gone through.
const open = -1

// look goes through elements and all that is within them, and reports whether all have their shape, and whether they are small enough to be copied: none is within itself, and they take no more than most.
//
// A list of what is still to do takes the place of recursion, since a deep element must not exhaust the stack. What is shared is gone through once.
func look(l ...api.Value) (shaped, small bool) {
	shaped, small = true, true
	root := &api.Value{Elements: l}
	within := map[*api.Value]int{}
	todo := []*api.Value{root}
	for len(todo) > 0 {
		v := todo[len(todo)-1]
		if _, met := within[v]; met {
			within[v] = size(v.Elements, within)
			todo = todo[:len(todo)-1]
			continue
		}
		within[v] = open
		for i := range v.Elements {
			e := &v.Elements[i]
			shaped = shaped && hasShape(*e)
			if n, met := within[e]; n == open {
				small = false
			} else if !met && len(e.Elements) > 0 {
				todo = append(todo, e)
			}
		}
	}
	return shaped, small && within[root] <= most
}

// size returns how many bytes of memory elements take, given those of what is within them, or most+1 for all that is more than most.
func size(l []api.Value, within map[*api.Value]int) int {
	n := 0
	for i := range l {
		n = min(n+own+len(l[i].Bytes)+within[&l[i]], most+1)
	}
	return n
}

// copied returns elements that can be copied in memory of their own. It has no recursion for the same reason as look.
func copied(l []api.Value) []api.Value {
	l = slices.Clone(l)
	for todo := [][]api.Value{l}; len(todo) > 0; {
		list := todo[len(todo)-1]
		todo = todo[:len(todo)-1]
		for i := range list {
			v := &list[i]
			v.Bytes = bytes.Clone(v.Bytes)
			v.Elements = slices.Clone(v.Elements)
			if len(v.Elements) > 0 {
				todo = append(todo, v.Elements)
			}
		}
	}
	return l
}

// pair is two elements that are held against each other.
type pair struct{ a, b *api.Value }

// Same reports whether elements are equal. It has no recursion, and goes once through pairs that are met again, for the same reasons as look.
func Same(a, b api.Value) bool {
	met := map[pair]bool{}
	todo := []pair{{&a, &b}}
	for len(todo) > 0 {
		p := todo[len(todo)-1]
		todo = todo[:len(todo)-1]
		if !alike(p) {
			return false
		}
		for i := range p.a.Elements {
			q := pair{&p.a.Elements[i], &p.b.Elements[i]}
			if !met[q] {
				met[q] = true
				todo = append(todo, q)
			}
		}
	}
	return true
}

// alike reports whether two elements are equal, but for what is within them.
func alike(p pair) bool {
	return p.a.Tag == p.b.Tag && p.a.Nested == p.b.Nested && bytes.Equal(p.a.Bytes, p.b.Bytes) && len(p.a.Elements) == len(p.b.Elements)
}

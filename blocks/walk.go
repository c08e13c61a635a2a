package blocks

import (
	"cipherplan/api"
	"slices"
)

// place is where a list of statements lies. Lists can be shared, and even be within themselves, so what goes through all of them remembers where it was; and it has no recursion, since a deep one must not exhaust the stack.
type place struct {
	first *api.Block
	n     int
}

// placeOf returns the place of a list.
func placeOf(l []api.Block) place {
	if len(l) == 0 {
		return place{}
	}
	return place{&l[0], len(l)}
}

// eachList calls a function with a list, if it is not empty, and each other one within it, once.
func eachList(l []api.Block, f func([]api.Block)) {
	met := map[place]bool{{}: true}
	for todo := [][]api.Block{l}; len(todo) > 0; {
		l := todo[len(todo)-1]
		todo = todo[:len(todo)-1]
		if met[placeOf(l)] {
			continue
		}
		met[placeOf(l)] = true
		f(l)
		for i := range l {
			if len(l[i].Within) > 0 {
				todo = append(todo, l[i].Within)
			}
		}
	}
}

// each calls a function with each statement of a list, and all that are within them.
func each(l []api.Block, f func(api.Block)) {
	eachList(l, func(l []api.Block) {
		for _, b := range l {
			f(b)
		}
	})
}

// levels returns how many levels statements have, or most+1 if these are more.
func levels(l []api.Block, most int) int {
	n := 0
	for level := [][]api.Block{l}; n <= most; n++ {
		met := map[place]bool{{}: true}
		var lower [][]api.Block
		filled := false
		for _, l := range level {
			filled = filled || len(l) > 0
			for i := range l {
				if w := l[i].Within; !met[placeOf(w)] {
					met[placeOf(w)] = true
					lower = append(lower, w)
				}
			}
		}
		if !filled {
			return n
		}
		level = lower
	}
	return n
}

// most is how many bytes of memory statements may take to be copied. No input has more (rule R8); but lists that are shared, or within themselves, can stand for more than any memory has room for.
const most = 1<<31 - 1

// own is how many bytes of memory a statement takes without its words and what is within it.
const own = 64

// open stands for the size of a list while it is gone through.
const open = -1

// isSmall reports whether statements are small enough to be copied: no list is within itself, and they take no more than most.
func isSmall(l []api.Block) bool {
	sizes := map[place]int{{}: 0}
	for todo := [][]api.Block{l}; len(todo) > 0; {
		l := todo[len(todo)-1]
		if _, met := sizes[placeOf(l)]; met {
			sizes[placeOf(l)] = size(l, sizes)
			todo = todo[:len(todo)-1]
			continue
		}
		sizes[placeOf(l)] = open
		for i := range l {
			w := l[i].Within
			if n, met := sizes[placeOf(w)]; n == open {
				return false
			} else if !met {
				todo = append(todo, w)
			}
		}
	}
	return sizes[placeOf(l)] <= most
}

// size returns how many bytes of memory a list takes, given those of the lists within it, or most+1 for all that is more than most.
func size(l []api.Block, sizes map[place]int) int {
	n := 0
	for i := range l {
		n = min(n+own+16*len(l[i].Words)+sizes[placeOf(l[i].Within)], most+1)
	}
	return n
}

// detach puts what is in a list of statements that can be copied into memory of its own.
func detach(l []api.Block) {
	for todo := [][]api.Block{l}; len(todo) > 0; {
		list := todo[len(todo)-1]
		todo = todo[:len(todo)-1]
		for i := range list {
			b := &list[i]
			b.Words = slices.Clone(b.Words)
			b.Within = slices.Clone(b.Within)
			if len(b.Within) > 0 {
				todo = append(todo, b.Within)
			}
		}
	}
}

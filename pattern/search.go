package pattern

import "cipherplan/api"

// place is where a state is: how many bytes lead to it, and its index among the states of as many bytes.
type place struct{ depth, index int }

// state is what a search has read last: the beginning of a pattern.
type state struct {
	next []step // to longer beginnings
	fall place  // the longest shorter beginning with which this one ends
	ends []int  // the patterns with which this one ends
}

// step is a byte with the index of the state to which it leads.
type step struct {
	b  byte
	to int
}

// search looks for many patterns at once. Its states lie in an array by the number of bytes that they stand for.
type search struct {
	states  [api.MaxPattern + 1][]state
	lengths []int // of the patterns
}

// newSearch returns a search for patterns.
func newSearch(p []api.Pattern) *search {
	var s search
	s.states[0] = []state{{}}
	for i, x := range p {
		s.add(i, x.Bytes)
		s.lengths = append(s.lengths, len(x.Bytes))
	}
	// A state falls to one of fewer bytes, so the states of fewer bytes come first.
	for depth := range api.MaxPattern {
		for from := range s.states[depth] {
			for _, n := range s.states[depth][from].next {
				s.join(place{depth, from}, n)
			}
		}
	}
	return &s
}

// add adds a pattern.
func (s *search) add(pattern int, bytes []byte) {
	at := place{}
	for _, b := range bytes {
		to, ok := s.step(at, b)
		if !ok {
			to = place{at.depth + 1, len(s.states[at.depth+1])}
			s.states[to.depth] = append(s.states[to.depth], state{})
			s.at(at).next = append(s.at(at).next, step{b, to.index})
		}
		at = to
	}
	s.at(at).ends = append(s.at(at).ends, pattern)
}

// at returns the state at a place.
func (s *search) at(p place) *state {
	return &s.states[p.depth][p.index]
}

// step returns the place to which a byte leads, if there is one.
func (s *search) step(from place, b byte) (place, bool) {
	for _, n := range s.at(from).next {
		if n.b == b {
			return place{from.depth + 1, n.to}, true
		}
	}
	return place{}, false
}

// join finds out where the state falls to which a step leads, and adds the patterns that end there.
func (s *search) join(from place, n step) {
	to := s.at(place{from.depth + 1, n.to})
	if from.depth > 0 {
		to.fall = s.follow(s.at(from).fall, n.b)
	}
	to.ends = append(to.ends, s.at(to.fall).ends...)
}

// follow returns the place to which a byte leads, there or at a shorter beginning.
func (s *search) follow(from place, b byte) place {
	for {
		if to, ok := s.step(from, b); ok {
			return to
		}
		if from.depth == 0 {
			return place{}
		}
		from = s.at(from).fall
	}
}

// each calls a function with all hits, by their ends, as long as it returns true.
func (s *search) each(b []byte, f func(api.Hit) bool) {
	at := place{}
	for i, x := range b {
		at = s.follow(at, x)
		for _, pattern := range s.at(at).ends {
			if !f(api.Hit{Pattern: pattern, At: i + 1 - s.lengths[pattern]}) {
				return
			}
		}
	}
}

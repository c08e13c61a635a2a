package proof

import (
	"cipherplan/api"
	"cipherplan/conversation"
	"cipherplan/estate"
	"cipherplan/order"
	"cipherplan/policy"
	"iter"
	"slices"
)

// part is what a plan does with the ends of an edge. Its estate has these and this edge alone, since nothing else matters there, and there are many cases.
type part struct {
	edge     int
	estate   api.Estate
	indices  api.Set      // of the changes in the plan
	changes  []api.Change // of the two ends
	days     []int
	required []api.Required
	sets     []api.Set // the cases, by the places of the changes here
	states   map[string]state
}

// state is an estate, if there is no error.
type state struct {
	estate api.Estate
	ok     bool
}

// newPart returns the part of a plan that an edge has.
func newPart(e api.Estate, p api.Plan, edge int) (*part, api.Errno) {
	x := &part{edge: edge, states: map[string]state{}}
	x.indices, _ = estate.Relevant(e, p.Changes, edge)
	ends := e.Edges[edge]
	low, high := min(ends.Client, ends.Server), max(ends.Client, ends.Server)
	place := func(endpoint int) int {
		if endpoint == high {
			return 1
		}
		return 0
	}
	x.estate = api.Estate{
		Endpoints: []api.Endpoint{e.Endpoints[low], e.Endpoints[high]},
		Edges:     []api.Edge{{Client: place(ends.Client), Server: place(ends.Server)}},
	}
	for _, i := range x.indices {
		c := p.Changes[i]
		c.Endpoint = place(c.Endpoint)
		x.changes = append(x.changes, c)
		x.days = append(x.days, p.Days[i])
	}
	x.required, _ = order.Part(len(p.Changes), p.Required, x.indices)
	sets, f := order.Sets(len(x.indices), x.required)
	x.sets = sets
	return x, f
}

// newParts returns the parts of a plan that all edges have.
func newParts(e api.Estate, p api.Plan) ([]*part, api.Errno) {
	var parts []*part
	n := 0
	for edge := range e.Edges {
		x, f := newPart(e, p, edge)
		n += len(x.sets)
		if f != api.OK || n > api.MaxSets {
			return nil, api.ErrLimit
		}
		parts = append(parts, x)
	}
	return parts, api.OK
}

// at returns the state behind a set of changes. It is asked for several times, as the state before and behind a change.
func (x *part) at(s api.Set) state {
	key := ""
	for _, i := range s {
		key += string(rune('a' + i))
	}
	found, met := x.states[key]
	if !met {
		e, f := estate.State(x.estate, x.changes, s)
		found = state{e, f == api.OK}
		x.states[key] = found
	}
	return found
}

// moment is a case of a part.
type moment struct {
	part   *part
	places api.Set
}

// cases goes through the cases of parts.
func cases(parts ...*part) iter.Seq[moment] {
	return func(yield func(moment) bool) {
		for _, x := range parts {
			for _, s := range x.sets {
				if !yield(moment{x, s}) {
					return
				}
			}
		}
	}
}

// matter goes through those of some cases that can be there up to a day.
func matter(all iter.Seq[moment], from, to int) iter.Seq[moment] {
	return func(yield func(moment) bool) {
		for m := range all {
			if m.first(from) <= to && !yield(m) {
				return
			}
		}
	}
}

// set returns the changes of a case, by their indices in the plan.
func (m moment) set() api.Set {
	var s api.Set
	for _, i := range m.places {
		s = append(s, m.part.indices[i])
	}
	return s
}

// first returns the first day of a case.
func (m moment) first(from int) int {
	for _, i := range m.places {
		from = max(from, m.part.days[i])
	}
	return from
}

// works returns the outcome of the edge from the first day of a case to a day.
func (m moment) works(from, to int) (api.Outcome, bool) {
	s := m.part.at(m.places)
	if !s.ok {
		return api.Outcome{}, false
	}
	o, f := conversation.During(s.estate, 0, m.first(from), to)
	return o, f == api.OK
}

// more returns the changes that can be added to a case.
func (m moment) more() api.Set {
	ready, _ := order.Ready(len(m.part.changes), m.part.required, m.places)
	return ready
}

// law is what is allowed.
type law struct {
	policy     api.Policy
	exceptions []api.Exception
	owners     api.Owners
}

// enables reports whether a change that is added to a case can enable something forbidden on its day.
func (m moment) enables(c int, w law) bool {
	day := m.part.days[c]
	if m.first(day) > day {
		return false
	}
	at, _ := slices.BinarySearch(m.places, c)
	before, after := m.part.at(m.places), m.part.at(slices.Insert(slices.Clone(m.places), at, c))
	if !before.ok || !after.ok {
		return false
	}
	edges, _ := policy.Step(before.estate, after.estate, w.policy, w.exceptions, w.owners, day)
	return len(edges) > 0
}

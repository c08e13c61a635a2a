package gone

import (
	"cipherplan/api"
	"cipherplan/asset"
	"cipherplan/catalog"
	"cipherplan/exception"
	"cipherplan/identity"
	"slices"
)

// inventory is what was found.
type inventory struct {
	findings []api.Finding
	entities []api.Entity
	age      int
}

// permissions is what may go on: exceptions that enough owners have signed.
type permissions struct {
	valid []api.Exception
}

// search looks for evidence of an algorithm.
type search struct {
	inventory
	permissions
	alg int
}

// begin returns a search on some days.
func begin(l []api.Finding, gap, age, alg int, x []api.Exception, o api.Owners, days ...int) (search, api.Errno) {
	entities, e := identity.Entities(l, gap)
	switch {
	case e != api.OK:
		return search{}, e
	case age < 0, age > api.MaxAge, slices.ContainsFunc(days, isNoDay):
		return search{}, api.ErrRange
	case !isAlgorithm(alg):
		return search{}, api.ErrUse
	case slices.ContainsFunc(x, func(x api.Exception) bool { return exception.Check(x) != api.OK }):
		return search{}, api.ErrException
	}
	s := search{inventory: inventory{l, entities, age}, alg: alg}
	for _, x := range x {
		if exception.Valid(x, o) {
			s.valid = append(s.valid, x)
		}
	}
	return s, api.OK
}

// facts returns the facts of an entity on a day. They depend on its own findings alone, and each call of Facts goes through all that it is given, so it is given these.
func (v inventory) facts(e api.Entity, day int) []api.Fact {
	var own []api.Finding
	alone := api.Entity{Number: e.Number}
	for k, i := range e.Findings {
		own = append(own, v.findings[i])
		alone.Findings = append(alone.Findings, k)
	}
	facts, _ := asset.Facts(own, alone, day, v.age)
	for k := range facts {
		facts[k].Finding = e.Findings[facts[k].Finding]
	}
	return facts
}

// evidence returns the evidence on a day.
func (s search) evidence(day int) []api.Evidence {
	var l []api.Evidence
	for _, e := range s.entities {
		for _, f := range s.facts(e, day) {
			if uses := usesOf(f, s.alg); len(uses) > 0 {
				l = append(l, api.Evidence{Finding: f.Finding, Covered: s.covers(uses, e.Hosts, day)})
			}
		}
	}
	slices.SortFunc(l, func(a, b api.Evidence) int { return a.Finding - b.Finding })
	return l
}

// method is a use, or, if it is open, an algorithm with any size.
type method struct {
	use  api.Use
	open bool
}

// usesOf returns the methods of a fact that have an algorithm.
func usesOf(f api.Fact, alg int) []method {
	var all []method
	switch f.Kind {
	case api.FindUse, api.FindKey:
		all = []method{{use: f.Use}}
	case api.FindSuite:
		s, _ := catalog.Suite(f.Number)
		for _, u := range []api.Use{s.Exchange, s.Sign, s.Cipher, s.Mac} {
			all = append(all, method{use: u, open: u.Bits == 0})
		}
	}
	return slices.DeleteFunc(all, func(m method) bool { return m.use.Alg != alg })
}

// covers reports whether exceptions cover all of some methods at one of some hosts.
func (p permissions) covers(l []method, hosts []string, day int) bool {
	return !slices.ContainsFunc(l, func(m method) bool { return !p.cover(m, hosts, day) })
}

// cover reports whether an exception covers a method at one of some hosts.
func (p permissions) cover(m method, hosts []string, day int) bool {
	return slices.ContainsFunc(p.valid, func(x api.Exception) bool {
		use := m.use
		if m.open {
			use.Bits = x.Use.Bits
		}
		return slices.Contains(hosts, x.Endpoint) && exception.Covers(x, use, api.PurposeTransport, x.Endpoint, day)
	})
}

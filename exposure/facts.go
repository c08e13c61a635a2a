package exposure

import (
	"cipherplan/api"
	"cipherplan/asset"
	"cipherplan/identity"
	"cipherplan/rule"
	"cipherplan/verdict"
	"slices"
)

// Weak returns the facts about uses that are not allowed.
func Weak(l []api.Finding, gap, day, age int, p api.Policy, purpose int) ([]api.Fact, api.Errno) {
	entities, e := entitiesOf(l, gap, day, age)
	if e != api.OK {
		return nil, e
	}
	if e := rule.Check(p); e != api.OK {
		return nil, e
	}
	if purpose < 1 || purpose > api.Purposes {
		return nil, api.ErrRange
	}
	var weak []api.Fact
	for _, x := range entities {
		for _, f := range factsOf(l, x, day, age) {
			if f.Kind != api.FindUse {
				continue
			}
			if ok, _, _ := verdict.Allowed(p, f.Use, purpose, day); !ok {
				weak = append(weak, f)
			}
		}
	}
	return weak, api.OK
}

// entitiesOf returns the entities of findings.
func entitiesOf(l []api.Finding, gap, day, age int) ([]api.Entity, api.Errno) {
	entities, e := identity.Entities(l, gap)
	if e == api.OK && (!isDay(day) || age < 0 || age > api.MaxAge) {
		e = api.ErrRange
	}
	if e != api.OK {
		return nil, e
	}
	return entities, api.OK
}

// factsOf returns the facts of an entity. They depend on its own findings alone, and each call of Facts goes through all that it is given, so it is given these.
func factsOf(l []api.Finding, e api.Entity, day, age int) []api.Fact {
	var own []api.Finding
	alone := api.Entity{Number: e.Number}
	for k, i := range e.Findings {
		own = append(own, l[i])
		alone.Findings = append(alone.Findings, k)
	}
	facts, _ := asset.Facts(own, alone, day, age)
	for k := range facts {
		facts[k].Finding = e.Findings[facts[k].Finding]
	}
	return facts
}

// Holds reports whether findings say a fact.
func Holds(l []api.Finding, gap, day, age int, f api.Fact) (bool, api.Errno) {
	entities, e := entitiesOf(l, gap, day, age)
	if e != api.OK {
		return false, e
	}
	return slices.ContainsFunc(entities, func(x api.Entity) bool {
		return (f.Text == "" || slices.Contains(x.Hosts, f.Text)) && slices.ContainsFunc(factsOf(l, x, day, age), func(g api.Fact) bool {
			return g.Subject == f.Subject && g.Kind == f.Kind && g.Use == f.Use && g.Number == f.Number
		})
	}), api.OK
}

// Explain returns findings that say a fact, and of which none can be left out.
func Explain(l []api.Finding, gap, day, age int, f api.Fact) ([]int, api.Errno) {
	says, e := Holds(l, gap, day, age, f)
	if e != api.OK {
		return nil, e
	}
	if !says {
		return nil, api.ErrNone
	}
	var left []int
	for i := range l {
		left = append(left, i)
	}
	for before := len(left) + 1; len(left) < before; {
		before = len(left)
		for k := 0; k < len(left); {
			less := slices.Delete(slices.Clone(left), k, k+1)
			if says, _ := Holds(pick(l, less), gap, day, age, f); says {
				left = less
			} else {
				k++
			}
		}
	}
	return left, api.OK
}

// pick returns the findings with some indices.
func pick(l []api.Finding, indices []int) []api.Finding {
	var some []api.Finding
	for _, i := range indices {
		some = append(some, l[i])
	}
	return some
}

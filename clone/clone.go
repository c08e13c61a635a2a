// Package clone copies values of package api into memory of their own: no result of a layer shares any with an argument.
package clone

import (
	"cipherplan/api"
	"slices"
)

// Each returns the copies that a function makes of values.
func Each[T any](l []T, f func(T) T) []T {
	l = slices.Clone(l)
	for i, v := range l {
		l[i] = f(v)
	}
	return l
}

// Certificate returns a copy of a certificate.
func Certificate(c api.Certificate) api.Certificate {
	c.Names = slices.Clone(c.Names)
	return c
}

// Certificates returns a copy of certificates.
func Certificates(l []api.Certificate) []api.Certificate {
	return Each(l, Certificate)
}

// Entry returns a copy of an entry of a key store.
func Entry(e api.Entry) api.Entry {
	e.Chain = Certificates(e.Chain)
	return e
}

// Identity returns a copy of an identity.
func Identity(i api.Identity) api.Identity {
	i.Chain = Certificates(i.Chain)
	return i
}

// Endpoint returns a copy of an endpoint.
func Endpoint(e api.Endpoint) api.Endpoint {
	e.Suites = slices.Clone(e.Suites)
	e.Identities = Each(e.Identities, Identity)
	e.Anchors = slices.Clone(e.Anchors)
	e.Hashes = slices.Clone(e.Hashes)
	return e
}

// Endpoints returns a copy of endpoints.
func Endpoints(l []api.Endpoint) []api.Endpoint {
	return Each(l, Endpoint)
}

// Item returns a copy of an item.
func Item(i api.Item) api.Item {
	i.Links = slices.Clone(i.Links)
	return i
}

// Estate returns a copy of an estate.
func Estate(e api.Estate) api.Estate {
	return api.Estate{Endpoints: Endpoints(e.Endpoints), Edges: slices.Clone(e.Edges), Items: Each(e.Items, Item)}
}

// Exception returns a copy of an exception.
func Exception(x api.Exception) api.Exception {
	x.Seals = slices.Clone(x.Seals)
	return x
}

// Owners returns a copy of owners.
func Owners(o api.Owners) api.Owners {
	o.Keys = slices.Clone(o.Keys)
	return o
}

// Policy returns a copy of a policy.
func Policy(p api.Policy) api.Policy {
	return api.Policy{Rules: slices.Clone(p.Rules), Keeps: slices.Clone(p.Keeps)}
}

// Change returns a copy of a change.
func Change(c api.Change) api.Change {
	c.Identity = Identity(c.Identity)
	return c
}

// Changes returns a copy of changes.
func Changes(l []api.Change) []api.Change {
	return Each(l, Change)
}

// Plan returns a copy of a plan.
func Plan(p api.Plan) api.Plan {
	return api.Plan{Changes: Changes(p.Changes), Required: slices.Clone(p.Required), Days: slices.Clone(p.Days)}
}

// Run returns a copy of a run.
func Run(r api.Run) api.Run {
	r.Plan = Plan(r.Plan)
	r.Steps = slices.Clone(r.Steps)
	r.Tries = slices.Clone(r.Tries)
	return r
}

// Host returns a copy of a host.
func Host(h api.Host) api.Host {
	return api.Host{Endpoint: Endpoint(h.Endpoint), Before: Endpoints(h.Before)}
}

// World returns a copy of a world.
func World(w api.World) api.World {
	w.Estate = Estate(w.Estate)
	w.Hosts = Each(w.Hosts, Host)
	w.Policy = Policy(w.Policy)
	w.Exceptions = Each(w.Exceptions, Exception)
	w.Owners = Owners(w.Owners)
	w.Findings = slices.Clone(w.Findings)
	w.Run = Run(w.Run)
	w.Ledger.Decisions = slices.Clone(w.Ledger.Decisions)
	return w
}

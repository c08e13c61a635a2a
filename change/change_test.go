package change_test

import (
	"cipherplan/api"
	"cipherplan/change"
	"cipherplan/endpoint"
	"cipherplan/sample"
	"math"
	"reflect"
	"slices"
	"testing"
)

// web returns a valid endpoint with two identities.
func web(f func(*api.Endpoint)) api.Endpoint {
	e := sample.Endpoint("web", 1, 10, 8, 2)
	e.Least, e.Most = 2, 3
	e.Identities = append(e.Identities, api.Identity{Key: api.Use{Alg: api.ED25519}, KeyId: 2})
	e.Anchors = []int{5, 9}
	f(&e)
	return e
}

func nothing(*api.Endpoint) {}

// set returns a change with a number.
func set(kind, number int) api.Change { return api.Change{Endpoint: 7, Kind: kind, Number: number} }

// add returns a change that adds a suite.
func add(suite, at int) api.Change {
	return api.Change{Endpoint: 7, Kind: api.AddSuite, Number: suite, At: at}
}

// show returns a change that adds an identity.
func show(id api.Identity, at int) api.Change {
	return api.Change{Endpoint: 7, Kind: api.AddIdentity, At: at, Identity: id}
}

// third returns an identity that the endpoint does not have.
func third() api.Identity { return sample.Identity("web", sample.RSA(), 3, 5) }

func TestApply(t *testing.T) { // P24.1 and P24.2
	ids := web(nothing).Identities
	for name, x := range map[string]struct {
		c    api.Change
		f    func(*api.Endpoint)
		back api.Change
	}{
		"add suite":           {add(15, 1), func(e *api.Endpoint) { e.Suites = []int{10, 15, 8, 2} }, set(api.DropSuite, 15)},
		"add suite first":     {add(15, 0), func(e *api.Endpoint) { e.Suites = []int{15, 10, 8, 2} }, set(api.DropSuite, 15)},
		"add suite last":      {add(15, 3), func(e *api.Endpoint) { e.Suites = []int{10, 8, 2, 15} }, set(api.DropSuite, 15)},
		"drop suite":          {set(api.DropSuite, 8), func(e *api.Endpoint) { e.Suites = []int{10, 2} }, add(8, 1)},
		"most":                {set(api.SetMost, 4), func(e *api.Endpoint) { e.Most = 4 }, set(api.SetMost, 3)},
		"lesser most":         {set(api.SetMost, 2), func(e *api.Endpoint) { e.Most = 2 }, set(api.SetMost, 3)},
		"least":               {set(api.SetLeast, 3), func(e *api.Endpoint) { e.Least = 3 }, set(api.SetLeast, 2)},
		"lesser least":        {set(api.SetLeast, 1), func(e *api.Endpoint) { e.Least = 1 }, set(api.SetLeast, 2)},
		"add identity":        {show(third(), 1), func(e *api.Endpoint) { e.Identities = []api.Identity{ids[0], third(), ids[1]} }, set(api.DropIdentity, 3)},
		"add identity last":   {show(third(), 2), func(e *api.Endpoint) { e.Identities = []api.Identity{ids[0], ids[1], third()} }, set(api.DropIdentity, 3)},
		"drop identity":       {set(api.DropIdentity, 1), func(e *api.Endpoint) { e.Identities = ids[1:] }, show(ids[0], 0)},
		"drop identity, last": {set(api.DropIdentity, 2), func(e *api.Endpoint) { e.Identities = ids[:1] }, show(ids[1], 1)},
		"add anchor":          {set(api.AddAnchor, 7), func(e *api.Endpoint) { e.Anchors = []int{5, 7, 9} }, set(api.DropAnchor, 7)},
		"add anchor 0":        {set(api.AddAnchor, 0), func(e *api.Endpoint) { e.Anchors = []int{0, 5, 9} }, set(api.DropAnchor, 0)},
		"drop anchor":         {set(api.DropAnchor, 9), func(e *api.Endpoint) { e.Anchors = []int{5} }, set(api.AddAnchor, 9)},
		"add hash":            {set(api.AddHash, api.MD5), func(e *api.Endpoint) { e.Hashes = []int{1, 2, 3} }, set(api.DropHash, 1)},
		"drop hash":           {set(api.DropHash, api.SHA1), func(e *api.Endpoint) { e.Hashes = []int{3} }, set(api.AddHash, 2)},
		"fallback":            {set(api.SetFallback, 1), func(e *api.Endpoint) { e.Fallback = true }, set(api.SetFallback, 0)},
		"order":               {set(api.SetOrder, 1), func(e *api.Endpoint) { e.OwnOrder = true }, set(api.SetOrder, 0)},
	} {
		before, want := web(nothing), web(x.f)
		got, e := change.Apply(before, x.c)
		back, f := change.Inverse(before, x.c)
		if e != api.OK || f != api.OK || change.Check(before, x.c) != api.OK || !endpoint.Same(got, want) || !change.Same(back, x.back) {
			t.Errorf("%s: %v, %v; %v, %v", name, got, e, back, f)
		}
		again, e := change.Apply(got, back)
		there, f := change.Inverse(got, back)
		if e != api.OK || f != api.OK || !endpoint.Same(again, before) || !change.Same(there, x.c) {
			t.Errorf("%s and back: %v, %v; %v, %v", name, again, e, there, f)
		}
		if w, v := change.Widens(before, x.c), change.Widens(got, back); w == v && x.c.Kind != api.SetOrder {
			t.Errorf("%s: widens %v, and back %v", name, w, v)
		}
	}
}

func TestOnAndOff(t *testing.T) { // P24.1: values that are there already in the other way
	on := web(func(e *api.Endpoint) { e.Fallback, e.OwnOrder = true, true })
	for _, kind := range []int{api.SetFallback, api.SetOrder} {
		if e, f := change.Apply(on, set(kind, 0)); f != api.OK || e.Fallback == (kind == api.SetFallback) || e.OwnOrder == (kind == api.SetOrder) {
			t.Errorf("%d: %v, %v", kind, e, f)
		}
		if _, f := change.Apply(on, set(kind, 1)); f != api.ErrDone {
			t.Errorf("%d: %v", kind, f)
		}
	}
}

func TestErrors(t *testing.T) { // P24.1
	at := func(c api.Change, n int) api.Change { c.At = n; return c }
	with := func(c api.Change, id api.Identity) api.Change { c.Identity = id; return c }
	number := func(c api.Change, n int) api.Change { c.Number = n; return c }
	twice := func(e *api.Endpoint) { e.Identities = append(e.Identities, e.Identities[0]) }
	bad := third()
	bad.Key.Alg = api.MD5
	anchors := func(e *api.Endpoint) { e.Anchors = []int{0, 1, 2, 3, 4, 5, 6, 7, 8, 9, 10, 11, 12, 13, 14, 15} }
	for name, x := range map[string]struct {
		f    func(*api.Endpoint)
		c    api.Change
		want api.Errno
	}{
		"endpoint":           {func(e *api.Endpoint) { e.Most = 9 }, api.Change{}, api.ErrEndpoint},
		"kind 0":             {nothing, api.Change{}, api.ErrChange},
		"kind 13":            {nothing, set(13, 1), api.ErrChange},
		"kind -1":            {nothing, set(-1, 1), api.ErrChange},
		"kind far":           {nothing, set(math.MinInt, 1), api.ErrChange},
		"suite, identity":    {nothing, with(add(15, 99), third()), api.ErrChange},
		"identity, number":   {nothing, number(show(third(), 99), 1), api.ErrChange},
		"most, at":           {nothing, at(set(api.SetMost, 3), 1), api.ErrChange},
		"drop suite, at":     {nothing, at(set(api.DropSuite, 99), 1), api.ErrChange},
		"drop identity, id":  {nothing, with(set(api.DropIdentity, 1), api.Identity{KeyId: 1}), api.ErrChange},
		"order, identity":    {nothing, with(set(api.SetOrder, 5), api.Identity{Chain: make([]api.Certificate, 1)}), api.ErrChange},
		"anchor, key":        {nothing, with(set(api.AddAnchor, 5), api.Identity{Key: sample.RSA()}), api.ErrChange},
		"at -1":              {nothing, add(10, -1), api.ErrRange},
		"at 4":               {nothing, add(10, 4), api.ErrRange},
		"identity at -1":     {nothing, show(web(nothing).Identities[0], -1), api.ErrRange},
		"identity at 3":      {nothing, show(web(nothing).Identities[0], 3), api.ErrRange},
		"fallback 2":         {nothing, set(api.SetFallback, 2), api.ErrRange},
		"order -1":           {nothing, set(api.SetOrder, -1), api.ErrRange},
		"suite there":        {nothing, add(8, 0), api.ErrDone},
		"suite not there":    {nothing, set(api.DropSuite, 15), api.ErrDone},
		"most there":         {nothing, set(api.SetMost, 3), api.ErrDone},
		"least there":        {nothing, set(api.SetLeast, 2), api.ErrDone},
		"identity there":     {nothing, show(api.Identity{KeyId: 2}, 0), api.ErrDone},
		"identity not there": {nothing, set(api.DropIdentity, 3), api.ErrDone},
		"anchor there":       {nothing, set(api.AddAnchor, 9), api.ErrDone},
		"anchor not there":   {nothing, set(api.DropAnchor, 7), api.ErrDone},
		"hash there":         {nothing, set(api.AddHash, api.SHA1), api.ErrDone},
		"hash not there":     {nothing, set(api.DropHash, api.MD5), api.ErrDone},
		"fallback there":     {nothing, set(api.SetFallback, 0), api.ErrDone},
		"order there":        {nothing, set(api.SetOrder, 0), api.ErrDone},
		"identity twice":     {twice, set(api.DropIdentity, 1), api.ErrTwice},
		"twice there":        {twice, show(api.Identity{KeyId: 1}, 0), api.ErrDone},
		"no suite":           {nothing, add(99, 0), api.ErrValue},
		"most 5":             {nothing, set(api.SetMost, 5), api.ErrValue},
		"most 1":             {nothing, set(api.SetMost, 1), api.ErrValue},
		"least 4":            {nothing, set(api.SetLeast, 4), api.ErrValue},
		"least 0":            {nothing, set(api.SetLeast, 0), api.ErrValue},
		"no identity":        {nothing, show(bad, 0), api.ErrValue},
		"anchor -1":          {nothing, set(api.AddAnchor, -1), api.ErrValue},
		"anchor far":         {nothing, set(api.AddAnchor, api.MaxKey+1), api.ErrValue},
		"17 anchors":         {anchors, set(api.AddAnchor, 99), api.ErrValue},
		"hash rsa":           {nothing, set(api.AddHash, api.RSA), api.ErrValue},
		"five identities":    {func(e *api.Endpoint) { twice(e); twice(e) }, show(third(), 0), api.ErrValue},
	} {
		e := web(x.f)
		got, f := change.Apply(e, x.c)
		back, g := change.Inverse(e, x.c)
		if f != x.want || g != x.want || change.Check(e, x.c) != x.want || !reflect.DeepEqual(got, api.Endpoint{}) || !reflect.DeepEqual(back, api.Change{}) {
			t.Errorf("%s: %v, %v", name, f, g)
		}
		if change.Widens(e, x.c) {
			t.Errorf("%s: widens", name)
		}
	}
}

func TestWidens(t *testing.T) { // P24.3
	on := func(e *api.Endpoint) { e.Fallback, e.OwnOrder = true, true }
	for _, x := range []struct {
		f    func(*api.Endpoint)
		c    api.Change
		want bool
	}{
		{nothing, add(15, 0), true}, {nothing, show(third(), 0), true}, {nothing, set(api.AddAnchor, 1), true}, {nothing, set(api.AddHash, 1), true},
		{nothing, set(api.SetMost, 4), true}, {nothing, set(api.SetMost, 2), false}, {nothing, set(api.SetLeast, 1), true}, {nothing, set(api.SetLeast, 3), false},
		{nothing, set(api.SetFallback, 1), true}, {on, set(api.SetFallback, 0), false}, {nothing, set(api.SetOrder, 1), false}, {on, set(api.SetOrder, 0), false},
		{nothing, set(api.DropSuite, 8), false}, {nothing, set(api.DropIdentity, 1), false}, {nothing, set(api.DropAnchor, 5), false}, {nothing, set(api.DropHash, 2), false},
	} {
		if change.Widens(web(x.f), x.c) != x.want {
			t.Errorf("%v", x.c)
		}
	}
}

func TestSame(t *testing.T) { // P24.3
	c := show(third(), 1)
	c.Number = 4
	for name, f := range map[string]func(*api.Change){
		"endpoint": func(c *api.Change) { c.Endpoint++ },
		"kind":     func(c *api.Change) { c.Kind++ },
		"number":   func(c *api.Change) { c.Number++ },
		"at":       func(c *api.Change) { c.At++ },
		"key":      func(c *api.Change) { c.Identity.Key.Bits++ },
		"key id":   func(c *api.Change) { c.Identity.KeyId++ },
		"chain":    func(c *api.Change) { c.Identity.Chain = nil },
		"serial": func(c *api.Change) {
			c.Identity.Chain = slices.Clone(c.Identity.Chain)
			c.Identity.Chain[0].Serial++
		},
	} {
		d := c
		f(&d)
		if change.Same(c, d) || !change.Same(d, d) {
			t.Error(name)
		}
	}
	if !change.Same(api.Change{}, api.Change{Identity: api.Identity{Chain: []api.Certificate{}}}) {
		t.Error("empty")
	}
}

func TestMemory(t *testing.T) { // R3
	e := web(nothing)
	for _, c := range []api.Change{add(15, 1), set(api.DropSuite, 8), set(api.SetMost, 4), show(third(), 1), set(api.DropIdentity, 1), set(api.AddAnchor, 7), set(api.DropAnchor, 9)} {
		apart(t, "Apply", func() api.Endpoint { x, _ := change.Apply(e, c); return x }, e, c)
		apart(t, "Inverse", func() api.Change { x, _ := change.Inverse(e, c); return x }, e, c)
	}
}

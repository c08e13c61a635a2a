package change

import (
	"cipherplan/api"
	"cipherplan/clone"
	"cipherplan/endpoint"
	"slices"
)

// edit is a change of an endpoint that is being made, and the change that leads back.
type edit struct {
	change   api.Change
	endpoint api.Endpoint
	back     api.Change
}

// carryOut makes a change; with an error the edit is empty.
func carryOut(e api.Endpoint, c api.Change) (edit, api.Errno) {
	if f := endpoint.Check(e); f != api.OK {
		return edit{}, f
	}
	kinds := methods()
	if c.Kind < 1 || c.Kind >= len(kinds) || hasOthers(c) {
		return edit{}, api.ErrChange
	}
	d := edit{change: c, endpoint: clone.Endpoint(e)}
	if f := kinds[c.Kind](&d); f != api.OK {
		return edit{}, f
	}
	if endpoint.Check(d.endpoint) != api.OK {
		return edit{}, api.ErrValue
	}
	d.back.Endpoint = c.Endpoint
	return d, api.OK
}

// methods returns the methods that make changes, by kind. Each one says ErrRange, ErrDone or ErrTwice, if this is so.
func methods() [api.ChangeKinds + 1]func(*edit) api.Errno {
	return [api.ChangeKinds + 1]func(*edit) api.Errno{
		api.AddSuite:     (*edit).addSuite,
		api.DropSuite:    (*edit).dropSuite,
		api.SetMost:      (*edit).setMost,
		api.SetLeast:     (*edit).setLeast,
		api.AddIdentity:  (*edit).addIdentity,
		api.DropIdentity: (*edit).dropIdentity,
		api.AddAnchor:    (*edit).addAnchor,
		api.DropAnchor:   (*edit).dropAnchor,
		api.AddHash:      (*edit).addHash,
		api.DropHash:     (*edit).dropHash,
		api.SetFallback:  (*edit).setFallback,
		api.SetOrder:     (*edit).setOrder,
	}
}

func (d *edit) addSuite() api.Errno {
	if d.change.At < 0 || d.change.At > len(d.endpoint.Suites) {
		return api.ErrRange
	}
	if slices.Contains(d.endpoint.Suites, d.change.Number) {
		return api.ErrDone
	}
	d.endpoint.Suites = slices.Insert(d.endpoint.Suites, d.change.At, d.change.Number)
	d.back = api.Change{Kind: api.DropSuite, Number: d.change.Number}
	return api.OK
}

func (d *edit) dropSuite() api.Errno {
	at := slices.Index(d.endpoint.Suites, d.change.Number)
	if at < 0 {
		return api.ErrDone
	}
	d.endpoint.Suites = slices.Delete(d.endpoint.Suites, at, at+1)
	d.back = api.Change{Kind: api.AddSuite, Number: d.change.Number, At: at}
	return api.OK
}

func (d *edit) setMost() api.Errno {
	return d.set(&d.endpoint.Most)
}

func (d *edit) setLeast() api.Errno {
	return d.set(&d.endpoint.Least)
}

// set gives a number the value of the change.
func (d *edit) set(to *int) api.Errno {
	if *to == d.change.Number {
		return api.ErrDone
	}
	d.back = api.Change{Kind: d.change.Kind, Number: *to}
	*to = d.change.Number
	return api.OK
}

func (d *edit) addIdentity() api.Errno {
	id := d.change.Identity
	if d.change.At < 0 || d.change.At > len(d.endpoint.Identities) {
		return api.ErrRange
	}
	if slices.ContainsFunc(d.endpoint.Identities, func(i api.Identity) bool { return i.KeyId == id.KeyId }) {
		return api.ErrDone
	}
	d.endpoint.Identities = slices.Insert(d.endpoint.Identities, d.change.At, clone.Identity(id))
	d.back = api.Change{Kind: api.DropIdentity, Number: id.KeyId}
	return api.OK
}

func (d *edit) dropIdentity() api.Errno {
	has := func(i api.Identity) bool { return i.KeyId == d.change.Number }
	at := slices.IndexFunc(d.endpoint.Identities, has)
	if at < 0 {
		return api.ErrDone
	}
	if slices.ContainsFunc(d.endpoint.Identities[at+1:], has) {
		return api.ErrTwice
	}
	d.back = api.Change{Kind: api.AddIdentity, At: at, Identity: d.endpoint.Identities[at]}
	d.endpoint.Identities = slices.Delete(d.endpoint.Identities, at, at+1)
	return api.OK
}

func (d *edit) addAnchor() api.Errno {
	return d.put(&d.endpoint.Anchors, api.DropAnchor)
}

func (d *edit) dropAnchor() api.Errno {
	return d.take(&d.endpoint.Anchors, api.AddAnchor)
}

func (d *edit) addHash() api.Errno {
	return d.put(&d.endpoint.Hashes, api.DropHash)
}

func (d *edit) dropHash() api.Errno {
	return d.take(&d.endpoint.Hashes, api.AddHash)
}

// put puts the number of the change into a row, in its place.
func (d *edit) put(row *[]int, back int) api.Errno {
	at, found := slices.BinarySearch(*row, d.change.Number)
	if found {
		return api.ErrDone
	}
	*row = slices.Insert(*row, at, d.change.Number)
	d.back = api.Change{Kind: back, Number: d.change.Number}
	return api.OK
}

// take takes the number of the change out of a row.
func (d *edit) take(row *[]int, back int) api.Errno {
	at, found := slices.BinarySearch(*row, d.change.Number)
	if !found {
		return api.ErrDone
	}
	*row = slices.Delete(*row, at, at+1)
	d.back = api.Change{Kind: back, Number: d.change.Number}
	return api.OK
}

func (d *edit) setFallback() api.Errno {
	return d.turn(&d.endpoint.Fallback)
}

func (d *edit) setOrder() api.Errno {
	return d.turn(&d.endpoint.OwnOrder)
}

// turn gives a truth value the value of the change.
func (d *edit) turn(to *bool) api.Errno {
	if d.change.Number != 0 && d.change.Number != 1 {
		return api.ErrRange
	}
	if *to == (d.change.Number == 1) {
		return api.ErrDone
	}
	d.back = api.Change{Kind: d.change.Kind, Number: 1 - d.change.Number}
	*to = !*to
	return api.OK
}

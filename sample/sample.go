// Package sample makes values of package api that tests begin with; the program does not use it.
package sample

import (
	"cipherplan/api"
	"cipherplan/certificate"
)

// Anchor is the key that seals what is not said to be sealed by another one.
const Anchor = 1000

// Last is the day before which certificates are valid.
const Last = 30000

// RSA is a use of rsa that is in no rule of the tests.
func RSA() api.Use {
	return api.Use{Alg: api.RSA, Bits: 2048}
}

// Leaf returns the certificate of a host.
func Leaf(host string, key api.Use, id, anchor int) api.Certificate {
	c := api.Certificate{Serial: id, Issuer: "ca", Subject: host, Key: key, KeyId: id, Hash: api.Use{Alg: api.SHA256}, To: Last, Names: []string{host}}
	return Sealed(c, anchor)
}

// Authority returns the certificate of an authority.
func Authority(name string, id, anchor int) api.Certificate {
	c := api.Certificate{Issuer: "root", Subject: name, Key: RSA(), KeyId: id, Hash: api.Use{Alg: api.SHA256}, To: Last, Authority: true, Path: 2}
	return Sealed(c, anchor)
}

// Sealed returns a certificate with the seal of a key.
func Sealed(c api.Certificate, key int) api.Certificate {
	c, _ = certificate.Sign(c, key)
	return c
}

// Identity returns an identity whose chain is one certificate that an anchor has sealed.
func Identity(host string, key api.Use, id, anchor int) api.Identity {
	return api.Identity{Key: key, KeyId: id, Chain: []api.Certificate{Leaf(host, key, id, anchor)}}
}

// Endpoint returns an endpoint with the versions 1 to 3, some suites, and an rsa key.
func Endpoint(host string, id int, suites ...int) api.Endpoint {
	return api.Endpoint{
		Name:       host,
		Least:      1,
		Most:       3,
		Suites:     suites,
		Identities: []api.Identity{Identity(host, RSA(), id, Anchor)},
		Anchors:    []int{Anchor},
		Hashes:     []int{api.SHA1, api.SHA256},
	}
}

// Estate returns an estate of three endpoints, of which the first one speaks with the others, and the others with one another.
func Estate() api.Estate {
	return api.Estate{
		Endpoints: []api.Endpoint{Endpoint("app", 1, 10, 8, 2), Endpoint("db", 2, 8, 10, 2), Endpoint("web", 3, 10, 2)},
		Edges:     []api.Edge{{Client: 0, Server: 1}, {Client: 0, Server: 2}, {Client: 2, Server: 1}},
		Items:     []api.Item{Item("archive", api.ItemSecret), Item("contract", api.ItemSigned)},
	}
}

// Item returns an item with a link under sha1 of the day 1, which has to hold until the day 200.
func Item(name string, kind int) api.Item {
	return api.Item{Name: name, Kind: kind, Purpose: api.PurposeSign, Links: []api.Link{{Use: api.Use{Alg: api.SHA1}, Day: 1}}, Until: 200}
}

// Plan returns a plan for the estate: db gets another identity, below a new anchor of app and web, and gives up its old one and a suite.
func Plan() api.Plan {
	return api.Plan{
		Changes: []api.Change{
			{Endpoint: 0, Kind: api.AddAnchor, Number: 7},
			{Endpoint: 2, Kind: api.AddAnchor, Number: 7},
			{Endpoint: 1, Kind: api.AddIdentity, At: 1, Identity: Identity("db", RSA(), 9, 7)},
			{Endpoint: 1, Kind: api.DropIdentity, Number: 2},
			{Endpoint: 1, Kind: api.DropSuite, Number: 2},
		},
		Required: []api.Required{{First: 0, Then: 2}, {First: 1, Then: 2}, {First: 2, Then: 3}},
		Days:     []int{1, 1, 2, 3, 3},
	}
}

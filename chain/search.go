package chain

import (
	"cipherplan/api"
	"cipherplan/certificate"
	"cipherplan/clone"
	"slices"
)

// search looks for chains: rows of indices of a leaf (0) and of the certificates of a pool behind it. There are many rows, so what is asked of a certificate and of two of them is asked once.
type search struct {
	all     []api.Certificate
	good    []bool   // whether it may stand in the chain
	ends    []bool   // whether it may stand at its end
	follows [][]bool // whether the second one may have issued the first one
}

// newSearch returns a search with a leaf and a pool.
func newSearch(leaf api.Certificate, pool []api.Certificate, anchors, hashes []int, day int) search {
	s := search{all: append([]api.Certificate{leaf}, pool...)}
	for _, c := range s.all {
		sealed := certificate.Sealed(c, c.Seal.Key) // so it is valid, too
		s.good = append(s.good, sealed && c.From <= day && day < c.To && slices.Contains(hashes, c.Hash.Alg))
		s.ends = append(s.ends, slices.Contains(anchors, c.Seal.Key))
		var row []bool
		for _, d := range s.all {
			row = append(row, c.Issuer == d.Subject && c.Seal.Key == d.KeyId)
		}
		s.follows = append(s.follows, row)
	}
	return s
}

// begin returns the row of the leaf alone, if the name is one of it and it may stand in the chain.
func (s search) begin(name string) [][]int {
	if !s.good[0] || !slices.Contains(s.all[0].Names, name) {
		return nil
	}
	return [][]int{{0}}
}

// longer returns the rows that go on with one more certificate, in the order of their indices.
func (s search) longer(rows [][]int) [][]int {
	var l [][]int
	for _, row := range rows {
		for i := 1; i < len(s.all) && len(row) < api.MaxChain; i++ {
			if s.follows[row[len(row)-1]][i] && s.may(i, len(row)) && !slices.Contains(row, i) {
				l = append(l, append(slices.Clip(row), i))
			}
		}
	}
	return l
}

// may reports whether a certificate may stand at a place behind the leaf.
func (s search) may(i, at int) bool {
	return s.good[i] && s.all[i].Authority && s.all[i].Path >= at-1
}

// chain returns the certificates of a row.
func (s search) chain(row []int) []api.Certificate {
	var l []api.Certificate
	for _, i := range row {
		l = append(l, clone.Certificate(s.all[i]))
	}
	return l
}

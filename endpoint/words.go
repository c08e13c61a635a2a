package endpoint

import (
	"cipherplan/api"
	"cipherplan/catalog"
	"cipherplan/keystore"
	"cipherplan/suitespec"
	"cipherplan/text"
	"slices"
	"strings"
)

// statement is what a line of either dialect says of an endpoint.
type statement struct {
	word   string
	values []string
	line   int
}

// hasWordOf reports whether another statement has the same word.
func (s statement) hasWordOf(o statement) bool {
	return s.word == o.word
}

// isUnknown reports whether a statement's word is not known.
func isUnknown(s statement) bool {
	var r reader
	return r.words()[s.word] == nil
}

// valuesOf returns the values of a setting.
func valuesOf(s api.Setting) []string {
	switch s.Name {
	case "keys", "anchors", "hashes":
		return strings.FieldsFunc(s.Value, func(r rune) bool { return r == ' ' })
	}
	return []string{s.Value}
}

// lasts returns the last statement of each word, in their order.
func lasts(l []statement) []statement {
	var last []statement
	for i, s := range l {
		if !slices.ContainsFunc(l[i+1:], s.hasWordOf) {
			last = append(last, s)
		}
	}
	return last
}

// reader reads what is said of an endpoint.
type reader struct {
	endpoint api.Endpoint
	store    []api.Entry
}

// words returns the functions that handle words with their values; each reports whether these are permitted.
func (r *reader) words() map[string]func([]string) bool {
	e := &r.endpoint
	return map[string]func([]string) bool{
		"least":    one(func(s string) bool { return readVersion(s, &e.Least) }),
		"most":     one(func(s string) bool { return readVersion(s, &e.Most) }),
		"suites":   one(r.suites),
		"order":    one(func(s string) bool { return readChoice(s, "client", "own", &e.OwnOrder) }),
		"keys":     r.keys,
		"anchors":  func(l []string) bool { return len(l) <= api.MaxAnchors && readNumbers(l, &e.Anchors, anchor) },
		"hashes":   func(l []string) bool { return readNumbers(l, &e.Hashes, hash) },
		"fallback": one(func(s string) bool { return readChoice(s, "no", "yes", &e.Fallback) }),
	}
}

// read returns the endpoint of which something is said.
func read(name string, store []api.Entry, said []statement) (api.Endpoint, int, api.Errno) {
	r := reader{endpoint: api.Endpoint{Name: name, Least: 1, Most: api.MaxProtocol}, store: store}
	r.suites("all")
	words := r.words()
	for _, s := range said {
		if !words[s.word](s.values) {
			return api.Endpoint{}, s.line, api.ErrValue
		}
	}
	if r.endpoint.Least > r.endpoint.Most {
		return api.Endpoint{}, 0, api.ErrEndpoint
	}
	return r.endpoint, 0, api.OK
}

// one returns a function that handles just one value.
func one(f func(string) bool) func([]string) bool {
	return func(l []string) bool { return len(l) == 1 && f(l[0]) }
}

// readVersion reads a version.
func readVersion(s string, to *int) bool {
	n, ok := text.Number(s, 1)
	*to = n
	return ok && n >= 1 && n <= api.MaxProtocol
}

// readChoice reads one of two words.
func readChoice(s, no, yes string, to *bool) bool {
	*to = s == yes
	return s == yes || s == no
}

// suites reads a list of suites.
func (r *reader) suites(s string) bool {
	l, _, e := suitespec.Parse(s)
	r.endpoint.Suites = l
	return e == api.OK
}

// keys reads aliases of the key store.
func (r *reader) keys(l []string) bool {
	for _, alias := range l {
		e, ok := keystore.Find(r.store, alias)
		if !ok || len(r.endpoint.Identities) == api.MaxIdentities {
			return false
		}
		r.endpoint.Identities = append(r.endpoint.Identities, api.Identity{Key: e.Key, KeyId: e.KeyId, Chain: e.Chain})
	}
	return true
}

// readNumbers reads different words that stand for numbers.
func readNumbers(l []string, to *[]int, number func(string) (int, bool)) bool {
	for _, s := range l {
		n, ok := number(s)
		if !ok || slices.Contains(*to, n) {
			return false
		}
		*to = append(*to, n)
	}
	slices.Sort(*to)
	return true
}

// anchor returns the key of a word.
func anchor(s string) (int, bool) {
	n, ok := text.Number(s, 15)
	return n, ok && n <= api.MaxKey
}

// hash returns the hash algorithm of a word.
func hash(s string) (int, bool) {
	alg := catalog.Find(s)
	return alg, catalog.Kind(alg) == api.KindHash
}

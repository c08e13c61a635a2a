package endpoint

import (
	"cipherplan/api"
	"cipherplan/catalog"
	"cipherplan/suitespec"
	"cipherplan/text"
	"slices"
	"strconv"
	"strings"
)

// ToSettings returns the settings of an endpoint.
func ToSettings(e api.Endpoint, aliases []string) ([]api.Setting, api.Errno) {
	said, f := say(e, aliases)
	if f != api.OK {
		return nil, f
	}
	if len(e.Suites) == 0 {
		return nil, api.ErrValue
	}
	var l []api.Setting
	for _, s := range said {
		l = append(l, api.Setting{Section: e.Name, Name: s.word, Value: strings.Join(s.values, " ")})
	}
	return l, api.OK
}

// ToBlocks returns the statement of an endpoint.
func ToBlocks(e api.Endpoint, aliases []string) ([]api.Block, api.Errno) {
	said, f := say(e, aliases)
	if f != api.OK {
		return nil, f
	}
	b := api.Block{Words: []string{"server", e.Name}, Open: true}
	for _, s := range said {
		b.Within = append(b.Within, api.Block{Words: append([]string{s.word}, s.values...)})
	}
	return []api.Block{b}, api.OK
}

// say returns what either dialect says of an endpoint.
func say(e api.Endpoint, aliases []string) ([]statement, api.Errno) {
	if f := Check(e); f != api.OK {
		return nil, f
	}
	if len(aliases) != len(e.Identities) || slices.ContainsFunc(aliases, func(s string) bool { return !text.IsName(s) }) {
		return nil, api.ErrValue
	}
	suites, _ := suitespec.Print(e.Suites)
	all := []statement{
		{word: "least", values: []string{strconv.Itoa(e.Least)}},
		{word: "most", values: []string{strconv.Itoa(e.Most)}},
		{word: "suites", values: []string{suites}},
		{word: "order", values: []string{choose(e.OwnOrder, "client", "own")}},
		{word: "keys", values: aliases},
		{word: "anchors", values: texts(e.Anchors, strconv.Itoa)},
		{word: "hashes", values: texts(e.Hashes, catalog.Name)},
		{word: "fallback", values: []string{choose(e.Fallback, "no", "yes")}},
	}
	return slices.DeleteFunc(all, func(s statement) bool { return len(s.values) == 0 }), api.OK
}

// choose returns one of two words.
func choose(b bool, no, yes string) string {
	if b {
		return yes
	}
	return no
}

// texts returns the texts of numbers.
func texts(l []int, text func(int) string) []string {
	var words []string
	for _, n := range l {
		words = append(words, text(n))
	}
	return words
}

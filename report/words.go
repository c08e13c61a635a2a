package report

import (
	"cipherplan/api"
	"strconv"
	"strings"
)

// builder puts words together to a line.
type builder struct{ words []string }

// word adds a word.
func (b *builder) word(s string) *builder {
	b.words = append(b.words, s)
	return b
}

// number adds a number.
func (b *builder) number(n int) *builder {
	return b.word(strconv.Itoa(n))
}

// line returns the line.
func (b *builder) line() string {
	return strings.Join(b.words, " ") + "\n"
}

// lines returns the lines of some things, one behind the other.
func lines[T any](l []T, line func(T) string) string {
	var b strings.Builder
	for _, x := range l {
		b.WriteString(line(x))
	}
	return b.String()
}

// riskWord returns the word of a kind of risks that there is.
func riskWord(kind int) string {
	return [...]string{
		api.RiskBroken: "broken",
		api.RiskOpen:   "open",
		api.RiskDown:   "down",
		api.RiskItem:   "item",
	}[kind]
}

// changeWord returns the word of a kind of changes that there is.
func changeWord(kind int) string {
	return [...]string{
		api.AddSuite:     "add-suite",
		api.DropSuite:    "drop-suite",
		api.SetMost:      "most",
		api.SetLeast:     "least",
		api.AddIdentity:  "add-identity",
		api.DropIdentity: "drop-identity",
		api.AddAnchor:    "add-anchor",
		api.DropAnchor:   "drop-anchor",
		api.AddHash:      "add-hash",
		api.DropHash:     "drop-hash",
		api.SetFallback:  "fallback",
		api.SetOrder:     "order",
	}[kind]
}

// findWord returns the word of a kind of findings that there is.
func findWord(kind int) string {
	return [...]string{
		api.FindUse:   "use",
		api.FindSuite: "suite",
		api.FindKey:   "key",
		api.FindMost:  "most",
		api.FindLeast: "least",
		api.FindTrust: "trust",
		api.FindPeer:  "peer",
		api.FindOff:   "off",
	}[kind]
}

package rule

import (
	"cipherplan/api"
	"cipherplan/catalog"
	"cipherplan/text"
	"strings"
)

// line is the words of a line that were not cut off yet.
type line struct{ words []string }

// cut cuts off the next word, which is empty if there is none.
func (l *line) cut() string {
	if len(l.words) == 0 {
		return ""
	}
	word := l.words[0]
	l.words = l.words[1:]
	return word
}

// take cuts off the next word if it is a certain one.
func (l *line) take(word string) bool {
	if len(l.words) == 0 || l.words[0] != word {
		return false
	}
	l.cut()
	return true
}

// readLine reads a line into a policy; false if it is none.
func readLine(s string, p *api.Policy) bool {
	l := &line{words: strings.Split(s, " ")}
	switch word := l.cut(); word {
	case "allow", "forbid":
		r, ok := readRule(l)
		r.Allow = word == "allow"
		p.Rules = append(p.Rules, r)
		return ok && len(l.words) == 0
	case "keep":
		purpose, ok1 := readPurpose(l.cut)
		days, ok2 := readNumber(l.cut)
		p.Keeps = append(p.Keeps, api.Keep{Purpose: purpose, Days: days})
		return ok1 && ok2 && len(l.words) == 0
	}
	return false
}

// readRule reads a rule behind its first word.
func readRule(l *line) (api.Rule, bool) {
	r := api.Rule{To: api.MaxDay + 1}
	alg, ok := readAlgorithm(l.cut)
	r.Alg = alg
	options := []struct {
		word string
		read func(cut func() string) (int, bool)
		to   *int
	}{{"below", readNumber, &r.Below}, {"for", readPurpose, &r.Purpose}, {"from", readNumber, &r.From}, {"until", readNumber, &r.To}}
	for _, o := range options {
		if !l.take(o.word) {
			continue
		}
		n, right := o.read(l.cut)
		*o.to = n
		ok = ok && right
	}
	return r, ok
}

// readAlgorithm reads the name of an algorithm, or any.
func readAlgorithm(cut func() string) (int, bool) {
	word := cut()
	alg := catalog.Find(word)
	return alg, alg > 0 || word == "any"
}

// readPurpose reads the word of a purpose.
func readPurpose(cut func() string) (int, bool) {
	p := Purpose(cut())
	return p, p > 0
}

// readNumber reads a number.
func readNumber(cut func() string) (int, bool) {
	return text.Number(cut(), 15)
}

package blocks

import (
	"cipherplan/api"
	"strings"
)

// parser puts tokens together to statements.
type parser struct {
	scanner
	token token
	words []string // of all statements, one behind the other
}

// next goes on to the next token.
func (p *parser) next() {
	p.token = p.scan()
}

// statements returns the statements that begin here; false if one is none.
func (p *parser) statements() ([]api.Block, bool) {
	var l []api.Block
	for p.token.kind == tokenPlain {
		b, ok := p.statement()
		if !ok {
			return nil, false
		}
		l = append(l, b)
	}
	return l, true
}

// statement returns the statement that begins here.
func (p *parser) statement() (api.Block, bool) {
	b := api.Block{Line: p.token.line}
	from := len(p.words)
	for p.token.kind == tokenPlain || p.token.kind == tokenQuoted {
		p.words = append(p.words, p.token.word)
		p.next()
	}
	// The words of the next statement must not come to lie behind these.
	b.Words = p.words[from:len(p.words):len(p.words)]
	switch p.token.kind {
	case tokenSemicolon:
		p.next()
		return b, true
	case tokenOpen:
		b.Open = true
		p.next()
		within, ok := p.statements()
		if !ok || p.token.kind != tokenClose {
			return api.Block{}, false
		}
		b.Within = within
		p.next()
		return b, true
	}
	return api.Block{}, false
}

// printer puts statements together to a text.
type printer struct {
	text  strings.Builder
	lines int
}

// statements prints statements that stand behind blanks; false if they are too long.
func (p *printer) statements(l []api.Block, blanks string) bool {
	for _, b := range l {
		var words []string
		for _, w := range b.Words {
			words = append(words, written(w))
		}
		line := blanks + strings.Join(words, " ")
		if !b.Open && !p.line(line+";") {
			return false
		}
		if b.Open && !(p.line(line+" {") && p.statements(b.Within, blanks+"  ") && p.line(blanks+"}")) {
			return false
		}
	}
	return true
}

// line prints a line; false if this makes the text too long.
func (p *printer) line(s string) bool {
	p.text.WriteString(s + "\n")
	p.lines++
	return p.text.Len() <= api.MaxText && p.lines <= api.MaxLines
}

// written returns a word as it is written.
func written(word string) string {
	if isPlain(word) {
		return word
	}
	return `"` + strings.ReplaceAll(strings.ReplaceAll(word, `\`, `\\`), `"`, `\"`) + `"`
}

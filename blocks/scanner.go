package blocks

import (
	"cipherplan/text"
	"strings"
)

// Kinds of tokens.
const (
	tokenBad = iota // what no right text goes on with
	tokenEnd
	tokenPlain
	tokenQuoted
	tokenSemicolon
	tokenOpen
	tokenClose
)

// token is a token, with the line in which it begins.
type token struct {
	kind int
	word string
	line int
}

// scanner cuts a text into tokens.
type scanner struct {
	text  string
	at    int
	line  int
	apart bool // whether a word may begin here
}

// isPermitted reports whether a text may have a byte.
func isPermitted(b byte) bool {
	return b == 9 || b == 10 || b >= 32 && b <= 126
}

// inPlain reports whether plain words have a byte.
func inPlain(b byte) bool {
	return text.InWord(b) || strings.IndexByte("/:*@+!", b) >= 0
}

// isPlain reports whether a word is plain.
func isPlain(word string) bool {
	for i := range len(word) {
		if !inPlain(word[i]) {
			return false
		}
	}
	return word != ""
}

// scan returns the next token.
func (s *scanner) scan() token {
	s.skip()
	t := token{line: s.line}
	if s.at == len(s.text) {
		t.kind = tokenEnd
		return t
	}
	b := s.text[s.at]
	apart := s.apart
	s.apart = true
	switch {
	case b == ';':
		t.kind = tokenSemicolon
	case b == '{':
		t.kind = tokenOpen
	case b == '}':
		t.kind = tokenClose
	case apart && b == '"':
		t.kind, t.word = s.quoted()
		s.apart = false
		return t
	case apart && inPlain(b):
		t.kind, t.word = tokenPlain, s.plain()
		s.apart = false
		return t
	}
	s.at++
	return t
}

// skip goes on to where a token begins, or what is none.
func (s *scanner) skip() {
	comment := false
	for ; s.at < len(s.text); s.at++ {
		b := s.text[s.at]
		switch {
		case b == '\n':
			s.line++
			comment = false
			s.apart = true
		case comment && isPermitted(b):
		case b == ' ', b == '\t':
			s.apart = true
		case b == '#':
			comment = true
		default:
			return
		}
	}
}

// plain returns the plain word that begins here.
func (s *scanner) plain() string {
	from := s.at
	for s.at < len(s.text) && inPlain(s.text[s.at]) {
		s.at++
	}
	return s.text[from:s.at]
}

// quoted returns the kind and the word of what begins with a quote.
func (s *scanner) quoted() (int, string) {
	var word []byte
	for s.at++; s.at < len(s.text) && isPermitted(s.text[s.at]) && s.text[s.at] != '\n'; s.at++ {
		b := s.text[s.at]
		if b == '"' {
			s.at++
			return tokenQuoted, string(word)
		}
		if b == '\\' {
			s.at++
			if s.at == len(s.text) || s.text[s.at] != '"' && s.text[s.at] != '\\' {
				return tokenBad, ""
			}
			b = s.text[s.at]
		}
		word = append(word, b)
	}
	return tokenBad, ""
}

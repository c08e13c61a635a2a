package settings

import (
	"cipherplan/api"
	"cipherplan/text"
	"strings"
)

// join returns the line with which lines begin, trimmed, with those on which it goes on, and how many lines these are; false if the last one goes on.
func join(lines []string) (string, int, bool) {
	line, n := strings.Trim(lines[0], blanks), 1
	for strings.HasSuffix(line, `\`) {
		if n == len(lines) {
			return line, n, false
		}
		line = strings.Trim(line[:len(line)-1]+strings.Trim(lines[n], blanks), blanks)
		n++
	}
	return line, n, true
}

// reader reads lines of settings.
type reader struct {
	section  string
	number   int
	settings []api.Setting
}

// kind returns the method that reads lines of the kind of a line.
func (r *reader) kind(line string) func(string) bool {
	switch {
	case line == "", line[0] == '#', line[0] == ';':
		return r.nothing
	case line[0] == '[' && line[len(line)-1] == ']':
		return r.begin
	}
	return r.set
}

// nothing reads a line that says nothing.
func (r *reader) nothing(line string) bool {
	return isPermitted(line)
}

// begin reads the beginning of a section. It has no bytes but those of words and blanks.
func (r *reader) begin(line string) bool {
	r.section = strings.Trim(line[1:len(line)-1], blanks)
	return text.IsWord(r.section)
}

// set reads a setting.
func (r *reader) set(line string) bool {
	name, value, found := strings.Cut(line, "=")
	name, value = strings.Trim(name, blanks), strings.Trim(value, blanks)
	if !found || !text.IsWord(name) || !isPermitted(value) {
		return false
	}
	r.settings = append(r.settings, api.Setting{Section: r.section, Name: name, Value: value, Line: r.number})
	return true
}

// isPermitted reports whether a text may have the bytes of a line.
func isPermitted(line string) bool {
	for i := range len(line) {
		if b := line[i]; b != 9 && (b < 32 || b > 126) {
			return false
		}
	}
	return true
}

package script

import (
	"cipherplan/api"
	"cipherplan/change"
	"cipherplan/finding"
	"strconv"
	"strings"
)

// Print returns the lines of acts.
func Print(l []api.Act) (string, api.Errno) {
	if len(l) > api.MaxActs {
		return "", api.ErrLimit
	}
	var b strings.Builder
	for _, a := range l {
		line, ok := write(a)
		if !ok {
			return "", api.ErrAct
		}
		b.WriteString(line + "\n")
	}
	return b.String(), api.OK
}

// write returns an act as it is written, if it can be.
func write(a api.Act) (string, bool) {
	if !isAct(a) {
		return "", false
	}
	numbers := []int{a.Kind, a.Number}
	var texts []string
	switch a.Kind {
	case api.ActDrift:
		c := a.Change
		if !change.Same(c, api.Change{Endpoint: c.Endpoint, Kind: c.Kind, Number: c.Number, At: c.At}) {
			return "", false
		}
		numbers = append(numbers, c.Endpoint, c.Kind, c.Number, c.At)
	case api.ActObserve:
		f := a.Finding
		if finding.Check(f) != api.OK {
			return "", false
		}
		numbers = append(numbers, f.Day, f.Machine, f.Confidence, f.Source, f.Kind, f.Number, f.Use.Alg, f.Use.Bits)
		texts = []string{f.Host, f.Subject, f.Text}
	}
	var words []string
	for _, n := range numbers {
		words = append(words, strconv.Itoa(n))
	}
	return strings.Join(append(words, texts...), " "), true
}

// Parse returns the acts of lines.
func Parse(s string) ([]api.Act, int, api.Errno) {
	if len(s) > api.MaxText {
		return nil, 0, api.ErrLimit
	}
	lines := strings.SplitAfter(s, "\n")
	if last := len(lines) - 1; lines[last] == "" {
		lines = lines[:last]
	}
	if len(lines) > api.MaxActs {
		return nil, 0, api.ErrLimit
	}
	var l []api.Act
	for i, line := range lines {
		a, ok := read(line)
		if !ok {
			return nil, i + 1, api.ErrLine
		}
		l = append(l, a)
	}
	return l, 0, api.OK
}

// read returns the act of a line with its end, if it is just as it is written.
func read(line string) (api.Act, bool) {
	words := strings.Split(strings.TrimSuffix(line, "\n"), " ")
	at := func(i int) int {
		if i >= len(words) {
			return 0
		}
		n, _ := strconv.Atoi(words[i])
		return n
	}
	a := api.Act{Kind: at(0), Number: at(1)}
	switch a.Kind {
	case api.ActDrift:
		a.Change = api.Change{Endpoint: at(2), Kind: at(3), Number: at(4), At: at(5)}
	case api.ActObserve:
		if len(words) != 13 {
			return api.Act{}, false
		}
		a.Finding = api.Finding{
			Day: at(2), Machine: at(3), Confidence: at(4), Source: at(5), Kind: at(6), Number: at(7),
			Use:  api.Use{Alg: at(8), Bits: at(9)},
			Host: words[10], Subject: words[11], Text: words[12],
		}
	}
	written, ok := write(a)
	return a, ok && written+"\n" == line
}

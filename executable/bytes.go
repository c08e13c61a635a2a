package executable

import (
	"bytes"
	"cipherplan/api"
)

// head is what the bytes of all executables begin with.
const head = "XE\x01"

// size returns how many bytes an executable has.
func size(i api.Image) int {
	n := len(head) + 2
	for _, s := range i.Sections {
		n += 1 + len(s.Name) + 2 + len(s.Bytes)
	}
	for _, s := range i.Symbols {
		n += 1 + len(s.Name) + 4
	}
	return n
}

// write returns the bytes of a valid executable.
func write(i api.Image) []byte {
	b := append([]byte(head), byte(len(i.Sections)))
	for _, s := range i.Sections {
		b = append(append(b, byte(len(s.Name))), s.Name...)
		b = append(b, byte(len(s.Bytes)>>8), byte(len(s.Bytes)))
		b = append(b, s.Bytes...)
	}
	b = append(b, byte(len(i.Symbols)))
	for _, s := range i.Symbols {
		b = append(append(b, byte(len(s.Name))), s.Name...)
		b = append(b, byte(s.Value>>24), byte(s.Value>>16), byte(s.Value>>8), byte(s.Value))
	}
	return b
}

// reader reads bytes from the beginning on.
type reader struct {
	left  []byte
	short bool // there were too few
}

// cut cuts off some bytes, none if there are too few.
func (r *reader) cut(n int) []byte {
	if n > len(r.left) {
		r.short = true
		return nil
	}
	b := r.left[:n:n]
	r.left = r.left[n:]
	return b
}

// number reads a number of some bytes.
func (r *reader) number(size int) int {
	n := 0
	for _, b := range r.cut(size) {
		n = n<<8 | int(b)
	}
	return n
}

// name reads a name with its length.
func (r *reader) name() string {
	return string(r.cut(r.number(1)))
}

// read returns the executable, valid or not, that bytes are.
func read(b []byte) (i api.Image, ok bool) {
	r := reader{left: b}
	if string(r.cut(len(head))) != head {
		return api.Image{}, false
	}
	for range r.number(1) {
		name := r.name()
		i.Sections = append(i.Sections, api.Section{Name: name, Bytes: bytes.Clone(r.cut(r.number(2)))})
	}
	for range r.number(1) {
		name := r.name()
		i.Symbols = append(i.Symbols, api.Symbol{Name: name, Value: r.number(4)})
	}
	if r.short || len(r.left) > 0 {
		return api.Image{}, false
	}
	return i, true
}

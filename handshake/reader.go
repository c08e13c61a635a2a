package handshake

import "cipherplan/api"

// reader reads bytes from the beginning on.
type reader struct {
	left  []byte
	short bool // there were too few
}

// cut cuts off some bytes, none if there are too few.
func (r *reader) cut(n int) []byte {
	if n > len(r.left) {
		r.short = true
		return nil
	}
	b := r.left[:n]
	r.left = r.left[n:]
	return b
}

// number reads a number that takes as many bytes as a type has room for.
func number[T byte | uint16 | uint32](r *reader) int {
	size := 0
	for room := ^T(0); room > 0; room = T(uint64(room) >> 8) {
		size++
	}
	n := T(0)
	for _, b := range r.cut(size) {
		n = T(uint64(n)<<8) | T(b)
	}
	return int(n)
}

// hello reads the message of a client behind its first byte.
func (r *reader) hello() (h api.Hello) {
	h.Most = number[byte](r)
	for range number[byte](r) {
		h.Suites = append(h.Suites, number[uint16](r))
	}
	for range number[byte](r) {
		h.Hashes = append(h.Hashes, number[byte](r))
	}
	return h
}

// choice reads the message of a server behind its first byte.
func (r *reader) choice() (c api.Choice) {
	c.Version = number[byte](r)
	c.Suite = number[uint16](r)
	c.KeyId = number[uint32](r)
	return c
}

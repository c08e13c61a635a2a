package der

import (
	"bytes"
	"cipherplan/api"
	"math/bits"
)

// appendElements appends the bytes of elements that stand at a depth. It gives up at the first one that is not well formed or goes beyond a limit, so it ends soon even for elements without end.
func appendElements(b []byte, depth int, l ...api.Value) ([]byte, bool) {
	for _, v := range l {
		if depth > api.MaxDepth || !hasShape(v) {
			return nil, false
		}
		c, ok := contents(v, depth)
		head := appendLength([]byte{byte(v.Tag)}, len(c))
		if !ok || len(b)+len(head)+len(c) > api.MaxBytes {
			return nil, false
		}
		b = append(append(b, head...), c...)
	}
	return b, true
}

// contents returns the contents of an element that stands at a depth.
func contents(v api.Value, depth int) ([]byte, bool) {
	if !v.Nested {
		return v.Bytes, true
	}
	return appendElements(nil, depth+1, v.Elements...)
}

// appendLength appends a length in as few bytes as possible.
func appendLength(b []byte, n int) []byte {
	if n < 128 {
		return append(b, byte(n))
	}
	k := (bits.Len(uint(n)) + 7) / 8
	b = append(b, byte(128+k))
	for i := k - 1; i >= 0; i-- {
		b = append(b, byte(n>>(8*i)))
	}
	return b
}

// readElements returns the elements whose bytes these are, and the greatest depth of one.
func readElements(b []byte) (l []api.Value, depth int, ok bool) {
	for len(b) > 0 {
		v, d, n := readElement(b)
		if n == 0 {
			return nil, 0, false
		}
		l = append(l, v)
		depth = max(depth, d)
		b = b[n:]
	}
	return l, depth, true
}

// readElement returns the element with which bytes begin, its depth, and how many bytes it takes (0: there is none).
func readElement(b []byte) (v api.Value, depth, n int) {
	if !isTag(int(b[0])) {
		return api.Value{}, 0, 0
	}
	length, k := readLength(b[1:])
	n = 1 + k + length
	if k == 0 || n > len(b) {
		return api.Value{}, 0, 0
	}
	v = api.Value{Tag: int(b[0]), Nested: isNested(int(b[0]))}
	if !v.Nested {
		v.Bytes = bytes.Clone(b[1+k : n])
		return v, 1, n
	}
	l, depth, ok := readElements(b[1+k : n])
	if !ok {
		return api.Value{}, 0, 0
	}
	v.Elements = l
	return v, depth + 1, n
}

// readLength returns the length with which bytes begin, and how many bytes it takes (0: there is none that is written as it must be).
func readLength(b []byte) (length, k int) {
	if len(b) == 0 {
		return 0, 0
	}
	length, k = int(b[0]), 1
	if length >= 128 {
		length, k = 0, 1+length-128
	}
	if k > len(b) {
		return 0, 0
	}
	for _, x := range b[1:k] {
		length = length<<8 | int(x)
		if length > api.MaxBytes { // longer than any contents, and soon than any number
			return 0, 0
		}
	}
	if !bytes.Equal(appendLength(nil, length), b[:k]) {
		return 0, 0
	}
	return length, k
}

// number returns the number that bytes are in two's complement.
func number(b []byte) int {
	n := 0
	if len(b) > 0 && b[0] >= 128 {
		n = -1
	}
	for _, x := range b {
		n = n<<8 | int(x)
	}
	return n
}

// unprintable reports whether a byte is none of a text.
func unprintable(b byte) bool {
	return b < 32 || b > 126
}

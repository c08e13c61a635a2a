package handshake_test

import (
	"bytes"
	"cipherplan/api"
	"cipherplan/handshake"
	"fmt"
	"math"
	"slices"
	"testing"
)

func hello(most int, suites []int, hashes ...int) api.Hello {
	return api.Hello{Most: most, Suites: suites, Hashes: hashes}
}

func sameHello(a, b api.Hello) bool {
	return a.Most == b.Most && slices.Equal(a.Suites, b.Suites) && slices.Equal(a.Hashes, b.Hashes)
}

// count returns so many numbers from 1 on.
func count(n int) []int {
	var l []int
	for i := range n {
		l = append(l, i+1)
	}
	return l
}

func one(n ...int) []int { return n }

func TestMessages(t *testing.T) { // P13.1
	for _, x := range []struct {
		h    api.Hello
		want []byte
	}{
		{hello(3, one(10), 3), []byte{1, 3, 1, 0, 10, 1, 3}},
		{hello(1, one(0, 65535, 258)), []byte{1, 1, 3, 0, 0, 255, 255, 1, 2, 0}},
		{hello(4, one(1), 255, 1), []byte{1, 4, 1, 0, 1, 2, 255, 1}},
	} {
		b, e := handshake.EncodeHello(x.h)
		h, c, n, f := handshake.Decode(append(slices.Clip(b), 9, 9))
		if e != api.OK || !bytes.Equal(b, x.want) || f != api.OK || !sameHello(h, x.h) || c != (api.Choice{}) || n != len(b) {
			t.Errorf("%v: %v, %v, %v, %d, %v", x.h, b, e, h, n, f)
		}
	}
	for _, x := range []struct {
		c    api.Choice
		want []byte
	}{
		{api.Choice{Version: 3, Suite: 10, KeyId: 7}, []byte{2, 3, 0, 10, 0, 0, 0, 7}},
		{api.Choice{Version: 1, Suite: 65535, KeyId: api.MaxKey}, []byte{2, 1, 255, 255, 128, 0, 0, 0}},
		{api.Choice{Version: 4, Suite: 1}, []byte{2, 4, 0, 1, 0, 0, 0, 0}},
		{api.Choice{Version: 4, KeyId: 0x01020304}, []byte{2, 4, 0, 0, 1, 2, 3, 4}},
	} {
		b, e := handshake.EncodeChoice(x.c)
		h, c, n, f := handshake.Decode(append(slices.Clip(b), 9))
		if e != api.OK || !bytes.Equal(b, x.want) || f != api.OK || c != x.c || !sameHello(h, api.Hello{}) || n != 8 {
			t.Errorf("%v: %v, %v, %v, %d, %v", x.c, b, e, c, n, f)
		}
	}
	if b, e := handshake.EncodeHello(hello(4, count(16), count(16)...)); e != api.OK || len(b) != 52 {
		t.Errorf("%v, %v", b, e)
	}
}

func TestWrong(t *testing.T) { // P13.1
	for _, h := range []api.Hello{{}, hello(0, one(1)), hello(5, one(1)), hello(1, nil, 1), hello(1, count(17)), hello(1, one(1, 1)), hello(1, one(-1)), hello(1, one(65536)), hello(1, one(1), 0), hello(1, one(1), 256), hello(1, one(1), 1, 1), hello(1, one(1), count(17)...), hello(math.MinInt, one(1))} {
		if b, e := handshake.EncodeHello(h); e != api.ErrMessage || len(b) > 0 {
			t.Errorf("%v: %v, %v", h, b, e)
		}
	}
	for _, c := range []api.Choice{{}, {Version: 5}, {Version: -1}, {Version: 1, Suite: -1}, {Version: 1, Suite: 65536}, {Version: 1, KeyId: -1}, {Version: 1, KeyId: api.MaxKey + 1}} {
		if b, e := handshake.EncodeChoice(c); e != api.ErrMessage || len(b) > 0 {
			t.Errorf("%v: %v, %v", c, b, e)
		}
	}
}

func TestDecode(t *testing.T) { // P13.1
	wrong := [][]byte{{1, 0, 1, 0, 1, 0}, {1, 5, 1, 0, 1, 0}, {1, 1, 0, 0}, {1, 1, 2, 0, 1, 0, 1, 0}, {1, 1, 1, 0, 1, 1, 0}, {1, 1, 1, 0, 1, 2, 3, 3}, {2, 0, 0, 0, 0, 0, 0, 0}, {2, 5, 0, 0, 0, 0, 0, 0}, {2, 1, 0, 0, 128, 0, 0, 1}, append(append([]byte{1, 1, 17}, make([]byte, 34)...), 0)}
	for _, b := range wrong {
		if h, c, n, e := handshake.Decode(b); e != api.ErrMessage || n != 0 || !sameHello(h, api.Hello{}) || c != (api.Choice{}) {
			t.Errorf("%v: %v, %v, %d, %v", b, h, c, n, e)
		}
		for k := range b {
			if h, c, n, e := handshake.Decode(b[:k]); e != api.ErrForm || n != 0 || !sameHello(h, api.Hello{}) || c != (api.Choice{}) {
				t.Errorf("%v: %v, %v, %d, %v", b[:k], h, c, n, e)
			}
		}
	}
	for _, b := range [][]byte{nil, {0}, {3, 1, 1, 0, 1, 0}, {22, 0, 1, 1}} {
		if _, _, _, e := handshake.Decode(b); e != api.ErrForm {
			t.Errorf("%v: %v", b, e)
		}
	}
}

func TestRecords(t *testing.T) { // P13.2
	for _, x := range []struct {
		n, size int
		want    []byte
	}{
		{0, 1, nil},
		{3, 1, []byte{22, 0, 1, 1, 22, 0, 1, 2, 22, 0, 1, 3}},
		{5, 2, []byte{22, 0, 2, 1, 2, 22, 0, 2, 3, 4, 22, 0, 1, 5}},
		{4, 2, []byte{22, 0, 2, 1, 2, 22, 0, 2, 3, 4}},
		{2, 65535, []byte{22, 0, 2, 1, 2}},
	} {
		var m []byte
		for i := range x.n {
			m = append(m, byte(i+1))
		}
		b, e := handshake.Records(m, x.size)
		n, f := handshake.Messages(x.want)
		if e != api.OK || f != api.OK || !bytes.Equal(b, x.want) || !bytes.Equal(m, n) {
			t.Errorf("%v: %v, %v, %v, %v", x, b, e, n, f)
		}
	}
	for _, x := range []struct {
		n, size int
		want    api.Errno
	}{{0, 0, api.ErrRange}, {0, -1, api.ErrRange}, {5000, 65536, api.ErrRange}, {0, math.MinInt, api.ErrRange}, {4097, 1, api.ErrLimit}, {4096, 1, api.OK}, {4096, 65535, api.OK}} {
		b, e := handshake.Records(make([]byte, x.n), x.size)
		if e != x.want || e != api.OK && len(b) > 0 {
			t.Errorf("%v: %d, %v", x, len(b), e)
		}
		if e == api.OK && x.size == 1 {
			if m, e := handshake.Messages(b); e != api.OK || len(m) != x.n {
				t.Errorf("%v: %d, %v", x, len(m), e)
			}
		}
	}
	long := append([]byte{22, 1, 2}, make([]byte, 258)...)
	if m, e := handshake.Messages(long); e != api.OK || len(m) != 258 {
		t.Errorf("%d, %v", len(m), e)
	}
	for _, b := range [][]byte{{22}, {22, 0}, {22, 0, 0}, {22, 0, 2, 1}, {21, 0, 1, 1}, {22, 0, 1, 1, 22}, {22, 0, 1, 1, 22, 0, 0}, {22, 0, 1, 1, 1}, make([]byte, 4*4096)} {
		if m, e := handshake.Messages(b); e != api.ErrForm || len(m) > 0 {
			t.Errorf("%v: %v, %v", b, m, e)
		}
	}
	if m, e := handshake.Messages(make([]byte, 4*4096+1)); e != api.ErrLimit || len(m) > 0 {
		t.Errorf("%v, %v", m, e)
	}
}

func TestCapture(t *testing.T) { // P13.3
	h, c := hello(3, one(10, 8), 3, 2), api.Choice{Version: 2, Suite: 8, KeyId: 77}
	first, _ := handshake.EncodeHello(h)
	second, _ := handshake.EncodeChoice(c)
	both := slices.Concat(first, second)
	for size := 1; size <= len(both)+1; size++ { // consequence: however messages are cut
		b, _ := handshake.Records(both, size)
		if x, y, e := handshake.Capture(b); e != api.OK || !sameHello(x, h) || y != c {
			t.Errorf("%d: %v, %v, %v", size, x, y, e)
		}
	}
	bad := []byte{1, 9, 1, 0, 1, 0}
	badChoice := []byte{2, 9, 0, 0, 0, 0, 0, 0}
	for i, x := range []struct {
		m    []byte
		want api.Errno
	}{
		{nil, api.ErrForm},
		{first, api.ErrForm},
		{slices.Concat(second, first), api.ErrForm},
		{slices.Concat(second, badChoice), api.ErrForm},
		{slices.Concat(badChoice, first), api.ErrMessage},
		{slices.Concat(bad, second), api.ErrMessage},
		{slices.Concat(first, badChoice), api.ErrMessage},
		{slices.Concat(first, bad), api.ErrMessage},
		{slices.Concat(first, first), api.ErrForm},
		{slices.Concat(first, first, second), api.ErrForm},
		{slices.Concat(both, []byte{1}), api.ErrForm},
		{slices.Concat(both, second), api.ErrForm},
		{both[:len(both)-1], api.ErrForm},
	} {
		b, _ := handshake.Records(x.m, 3)
		if h, c, e := handshake.Capture(b); e != x.want || fmt.Sprint(h, c) != fmt.Sprint(api.Hello{}, api.Choice{}) {
			t.Errorf("%d: %v, %v, %v", i, h, c, e)
		}
	}
	if _, _, e := handshake.Capture(both); e != api.ErrForm {
		t.Error(e)
	}
	if _, _, e := handshake.Capture(make([]byte, 5*4096)); e != api.ErrLimit {
		t.Error(e)
	}
}

func TestMemory(t *testing.T) { // R3
	h := hello(3, one(10, 8), 3)
	b, _ := handshake.EncodeHello(h)
	r, _ := handshake.Records(b, 60)
	apart(t, "EncodeHello", func() []byte { b, _ := handshake.EncodeHello(h); return b }, h)
	apart(t, "Decode", func() api.Hello { h, _, _, _ := handshake.Decode(b); return h }, b)
	apart(t, "Records", func() []byte { r, _ := handshake.Records(b, 100); return r }, b)
	apart(t, "Messages", func() []byte { m, _ := handshake.Messages(r); return m }, r)
}

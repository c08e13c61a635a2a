package der_test

import (
	"bytes"
	"cipherplan/api"
	"cipherplan/der"
	"encoding/asn1"
	"math"
	"math/rand"
	"reflect"
	"testing"
)

// The signatures of the chapter, exactly.
var (
	_ func(api.Value) ([]byte, api.Errno)      = der.Encode
	_ func([]byte) (api.Value, api.Errno)      = der.Decode
	_ func([]byte) ([]api.Value, api.Errno)    = der.All
	_ func(int) api.Value                      = der.Int
	_ func(api.Value) (int, api.Errno)         = der.AsInt
	_ func(string) api.Value                   = der.Text
	_ func(api.Value) (string, api.Errno)      = der.AsText
	_ func(bool) api.Value                     = der.Bool
	_ func(api.Value) (bool, api.Errno)        = der.AsBool
	_ func([]api.Value) api.Value              = der.List
	_ func(api.Value) ([]api.Value, api.Errno) = der.AsList
	_ func(a, b api.Value) bool                = der.Same
)

func leaf(tag int, b ...byte) api.Value { return api.Value{Tag: tag, Bytes: b} }

func nested(tag int, l ...api.Value) api.Value {
	return api.Value{Tag: tag, Nested: true, Elements: l}
}

func list(l ...api.Value) api.Value { return nested(48, l...) }

// chain returns an element within so many lists.
func chain(v api.Value, lists int) api.Value {
	for range lists {
		v = list(v)
	}
	return v
}

// joined returns bytes, one behind the other.
func joined(l ...[]byte) []byte { return bytes.Join(l, nil) }

// equal compares fields without Same; nil and empty slices are equal.
func equal(a, b api.Value) bool {
	return reflect.DeepEqual(plain(a), plain(b))
}

// plain returns an element in memory of its own, without empty slices.
func plain(v api.Value) api.Value {
	v.Bytes = append([]byte(nil), v.Bytes...)
	var l []api.Value
	for _, e := range v.Elements {
		l = append(l, plain(e))
	}
	v.Elements = l
	return v
}

// written is elements with their bytes.
func written() map[string]struct {
	v api.Value
	b []byte
} {
	zeros := func(n int) []byte { return make([]byte, n) }
	return map[string]struct {
		v api.Value
		b []byte
	}{
		"a number":         {leaf(2, 5), []byte{2, 1, 5}},
		"two bytes":        {leaf(2, 255, 127), []byte{2, 2, 255, 127}},
		"the example":      {list(leaf(2, 5), leaf(2, 255, 127)), []byte{48, 7, 2, 1, 5, 2, 2, 255, 127}},
		"no contents":      {leaf(5), []byte{5, 0}},
		"an empty list":    {list(), []byte{48, 0}},
		"the least tag":    {leaf(1), []byte{1, 0}},
		"tag 30":           {leaf(30, 9), []byte{30, 1, 9}},
		"tag 32":           {nested(32), []byte{32, 0}},
		"tag 62":           {nested(62), []byte{62, 0}},
		"tag 64":           {leaf(64, 9), []byte{64, 1, 9}},
		"tag 128":          {leaf(128), []byte{128, 0}},
		"tag 192":          {leaf(192), []byte{192, 0}},
		"the greatest tag": {nested(254, leaf(1, 0)), []byte{254, 3, 1, 1, 0}},
		"lists in a list":  {list(list(leaf(5)), list()), []byte{48, 6, 48, 2, 5, 0, 48, 0}},
		"127 bytes":        {leaf(4, zeros(127)...), joined([]byte{4, 127}, zeros(127))},
		"128 bytes":        {leaf(4, zeros(128)...), joined([]byte{4, 129, 128}, zeros(128))},
		"255 bytes":        {leaf(4, zeros(255)...), joined([]byte{4, 129, 255}, zeros(255))},
		"256 bytes":        {leaf(4, zeros(256)...), joined([]byte{4, 130, 1, 0}, zeros(256))},
		"4092 bytes":       {leaf(4, zeros(4092)...), joined([]byte{4, 130, 15, 252}, zeros(4092))},
		"a long list":      {list(leaf(4, zeros(126)...)), joined([]byte{48, 129, 128, 4, 126}, zeros(126))},
	}
}

// unformed is elements that are not well formed.
func unformed() map[string]api.Value {
	return map[string]api.Value{
		"the zero value":            {},
		"tag -1":                    leaf(-1),
		"tag 256":                   leaf(256),
		"tag 258":                   leaf(258, 5),
		"tag 31":                    leaf(31),
		"tag 63":                    nested(63),
		"tag 255":                   nested(255),
		"the least int":             leaf(math.MinInt),
		"the greatest int":          leaf(math.MaxInt),
		"nested by itself":          nested(4),
		"not nested by itself":      leaf(48),
		"bytes and nested":          {Tag: 48, Nested: true, Bytes: []byte{1}},
		"elements, not nested":      {Tag: 4, Elements: []api.Value{leaf(5)}},
		"within":                    list(list(leaf(5), leaf(0))),
		"within, in what is none":   list(api.Value{Tag: 4, Elements: []api.Value{leaf(5)}}),
		"deeper than MaxDepth":      chain(leaf(0), 100),
		"with too many bytes":       list(leaf(4, make([]byte, 5000)...), leaf(0)),
		"with too many, and within": list(leaf(4, make([]byte, 5000)...), list(list(leaf(31)))),
	}
}

func TestEncode(t *testing.T) { // P1.1
	for name, x := range written() {
		if b, e := der.Encode(x.v); e != api.OK || !bytes.Equal(b, x.b) {
			t.Errorf("%s: %v, %v", name, b, e)
		}
	}
	for name, v := range unformed() {
		if b, e := der.Encode(v); e != api.ErrForm || len(b) > 0 {
			t.Errorf("%s: %v, %v", name, b, e)
		}
	}
}

func TestEncodeLimits(t *testing.T) { // P1.1
	many := make([]api.Value, 2046)
	for i := range many {
		many[i] = leaf(5)
	}
	for name, x := range map[string]struct {
		v    api.Value
		n    int
		want api.Errno
	}{
		"the greatest depth":       {chain(leaf(5), 15), 32, api.OK},
		"the greatest depth empty": {chain(list(), 15), 32, api.OK},
		"too deep":                 {chain(leaf(5), 16), 0, api.ErrLimit},
		"too deep and empty":       {chain(list(), 16), 0, api.ErrLimit},
		"too deep at the end":      {list(leaf(5), chain(leaf(5), 15)), 0, api.ErrLimit},
		"the most bytes":           {leaf(4, make([]byte, 4092)...), 4096, api.OK},
		"a byte too many":          {leaf(4, make([]byte, 4093)...), 0, api.ErrLimit},
		"the most in a list":       {list(leaf(4, make([]byte, 4088)...)), 4096, api.OK},
		"too many in a list":       {list(leaf(4, make([]byte, 4089)...)), 0, api.ErrLimit},
		"the most elements":        {list(many...), 4096, api.OK},
		"too many elements":        {list(append(many[:2046:2046], leaf(5))...), 0, api.ErrLimit},
		"many megabytes":           {leaf(4, make([]byte, 1<<24)...), 0, api.ErrLimit},
	} {
		if b, e := der.Encode(x.v); e != x.want || len(b) != x.n {
			t.Errorf("%s: %d bytes, %v", name, len(b), e)
		}
	}
}

func TestDecode(t *testing.T) { // P1.2
	for name, x := range written() {
		if v, e := der.Decode(x.b); e != api.OK || !equal(v, x.v) {
			t.Errorf("%s: %+v, %v", name, v, e)
		}
		if v, e := der.Decode(x.b[:len(x.b)-1]); e != api.ErrForm || !equal(v, api.Value{}) {
			t.Errorf("%s, cut off: %+v, %v", name, v, e)
		}
		want := api.ErrForm
		if len(x.b) == api.MaxBytes {
			want = api.ErrLimit
		}
		if v, e := der.Decode(append(x.b[:len(x.b):len(x.b)], 0)); e != want || !equal(v, api.Value{}) {
			t.Errorf("%s, with one more: %+v, %v", name, v, e)
		}
	}
}

func TestAll(t *testing.T) { // P1.2
	for _, b := range [][]byte{nil, {}} {
		if l, e := der.All(b); e != api.OK || len(l) != 0 {
			t.Errorf("none: %v, %v", l, e)
		}
	}
	var b []byte
	var want []api.Value
	for _, x := range written() {
		if len(b)+len(x.b) > api.MaxBytes {
			continue
		}
		b, want = append(b, x.b...), append(want, x.v)
		l, e := der.All(b)
		if e != api.OK || !equal(list(l...), list(want...)) {
			t.Errorf("%v: %+v, %v", b, l, e)
		}
		if len(want) > 1 {
			if v, e := der.Decode(b); e != api.ErrForm || !equal(v, api.Value{}) {
				t.Errorf("Decode of %d elements: %v", len(want), e)
			}
		}
	}
	if l, e := der.All(bytes.Repeat([]byte{5, 0}, 2048)); e != api.OK || len(l) != 2048 {
		t.Errorf("2048 elements: %d, %v", len(l), e)
	}
}

func TestBadBytes(t *testing.T) { // P1.2
	zeros := make([]byte, 300)
	for name, b := range map[string][]byte{
		"a tag alone":                {5},
		"tag 0":                      {0, 0},
		"tag 31":                     {31, 0},
		"tag 63":                     {63, 0},
		"tag 255":                    {255, 0},
		"too few contents":           {4, 2, 1},
		"one byte more":              {4, 1, 1, 1},
		"no definite length":         {48, 128, 0, 0},
		"no length, no end":          {48, 128},
		"5 in the long form":         {4, 129, 5, 1, 2, 3, 4, 5},
		"0 in the long form":         {4, 129, 0},
		"127 in the long form":       joined([]byte{4, 129, 127}, zeros[:127]),
		"128 with a zero ahead":      joined([]byte{4, 130, 0, 128}, zeros[:128]),
		"300 with a zero ahead":      joined([]byte{4, 131, 0, 1, 44}, zeros),
		"a length that is cut off":   {4, 130, 1},
		"no byte of the length":      {4, 129},
		"64 KiB":                     {4, 131, 1, 0, 0},
		"2^63 - 1":                   {4, 136, 127, 255, 255, 255, 255, 255, 255, 255},
		"2^63":                       {4, 136, 128, 0, 0, 0, 0, 0, 0, 0},
		"2^64 and one":               {4, 137, 1, 0, 0, 0, 0, 0, 0, 0, 1, 7},
		"2^64 - 1":                   {4, 136, 255, 255, 255, 255, 255, 255, 255, 255},
		"127 bytes of length":        joined([]byte{4, 255}, bytes.Repeat([]byte{255}, 127)),
		"an element that is cut off": {48, 2, 5, 1},
		"one that goes beyond":       {48, 3, 5, 0, 5},
		"beyond its list":            {48, 3, 4, 2, 1, 1},
		"tag 0 within":               {48, 4, 5, 0, 0, 0},
		"the long form within":       {48, 3, 5, 129, 0},
		"garbage behind":             {5, 0, 0},
	} {
		if v, e := der.Decode(b); e != api.ErrForm || !equal(v, api.Value{}) {
			t.Errorf("%s: Decode: %+v, %v", name, v, e)
		}
		if name == "one byte more" {
			b = append(b, 9)
		}
		if l, e := der.All(b); e != api.ErrForm || len(l) != 0 {
			t.Errorf("%s: All: %+v, %v", name, l, e)
		}
	}
	if v, e := der.Decode(nil); e != api.ErrForm || !equal(v, api.Value{}) {
		t.Errorf("none: %+v, %v", v, e)
	}
}

// lists returns the bytes of so many lists, each within the one before.
func lists(n int) []byte {
	var b []byte
	for range n {
		n := len(b)
		switch {
		case n < 128:
			b = joined([]byte{48, byte(n)}, b)
		case n < 256:
			b = joined([]byte{48, 129, byte(n)}, b)
		default:
			b = joined([]byte{48, 130, byte(n / 256), byte(n % 256)}, b)
		}
	}
	return b
}

func TestReadingLimits(t *testing.T) { // P1.2 and the order of its errors
	five := []byte{5, 0}
	for name, x := range map[string]struct {
		b        []byte
		one, all api.Errno
	}{
		"the greatest depth":          {lists(16), api.OK, api.OK},
		"too deep":                    {lists(17), api.ErrLimit, api.ErrLimit},
		"a thousand deep":             {lists(1000), api.ErrLimit, api.ErrLimit},
		"too deep and more":           {joined(lists(17), five), api.ErrForm, api.ErrLimit},
		"too deep behind":             {joined(five, lists(17)), api.ErrForm, api.ErrLimit},
		"too deep and garbage":        {joined(lists(17), []byte{0}), api.ErrForm, api.ErrForm},
		"too deep and garbage within": {joined([]byte{48, 35}, lists(17), []byte{0}), api.ErrForm, api.ErrForm},
		"the most bytes of garbage":   {make([]byte, 4096), api.ErrForm, api.ErrForm},
		"too many bytes":              {make([]byte, 4097), api.ErrLimit, api.ErrLimit},
		"too many, well formed":       {joined([]byte{4, 130, 15, 253}, make([]byte, 4093)), api.ErrLimit, api.ErrLimit},
	} {
		v, e := der.Decode(x.b)
		if e != x.one || e != api.OK && !equal(v, api.Value{}) {
			t.Errorf("%s: Decode: %+v, %v", name, v, e)
		}
		l, e := der.All(x.b)
		if e != x.all || e != api.OK && len(l) != 0 {
			t.Errorf("%s: All: %+v, %v", name, l, e)
		}
	}
}

func TestInt(t *testing.T) { // P1.3, P1.4
	for n, want := range map[int][]byte{
		0: {0}, 1: {1}, 5: {5}, 127: {127}, 128: {0, 128}, 255: {0, 255}, 256: {1, 0}, 32767: {127, 255}, 32768: {0, 128, 0},
		-1: {255}, -128: {128}, -129: {255, 127}, -256: {255, 0}, -32768: {128, 0}, -32769: {255, 127, 255},
		1 << 40:      {1, 0, 0, 0, 0, 0},
		math.MaxInt:  {127, 255, 255, 255, 255, 255, 255, 255},
		math.MinInt:  {128, 0, 0, 0, 0, 0, 0, 0},
		-(1 << 62):   {192, 0, 0, 0, 0, 0, 0, 0},
		1<<63 - 1<<8: {127, 255, 255, 255, 255, 255, 255, 0},
	} {
		v := der.Int(n)
		if !equal(v, leaf(2, want...)) {
			t.Errorf("Int(%d): %+v", n, v)
		}
		if m, e := der.AsInt(v); m != n || e != api.OK {
			t.Errorf("AsInt of %d: %d, %v", n, m, e)
		}
	}
	for shift := range 63 { // held against another encoder
		for d := -3; d <= 3; d++ {
			for _, n := range []int{1<<shift + d, -1<<shift + d} {
				want, _ := asn1.Marshal(n)
				if b, e := der.Encode(der.Int(n)); e != api.OK || !bytes.Equal(b, want) {
					t.Errorf("%d: %v, %v", n, b, e)
				}
			}
		}
	}
}

func TestNoInt(t *testing.T) { // P1.4
	for name, v := range map[string]api.Value{
		"no bytes":        leaf(2),
		"a zero ahead":    leaf(2, 0, 5),
		"two zeros":       leaf(2, 0, 0),
		"ones ahead":      leaf(2, 255, 200),
		"2^63":            leaf(2, 0, 128, 0, 0, 0, 0, 0, 0, 0),
		"-2^63 - 1":       leaf(2, 255, 127, 255, 255, 255, 255, 255, 255, 255),
		"2^64 and five":   leaf(2, 1, 0, 0, 0, 0, 0, 0, 0, 5),
		"another tag":     leaf(10, 5),
		"a text":          der.Text("5"),
		"nested":          {Tag: 2, Nested: true, Bytes: []byte{5}},
		"with an element": {Tag: 2, Bytes: []byte{5}, Elements: []api.Value{leaf(5)}},
		"many bytes":      leaf(2, make([]byte, 1<<20)...),
		"the zero value":  {},
	} {
		if n, e := der.AsInt(v); e != api.ErrForm || n != 0 {
			t.Errorf("%s: %d, %v", name, n, e)
		}
	}
}

func TestText(t *testing.T) { // P1.3, P1.4
	var printable []byte
	for c := 32; c <= 126; c++ {
		printable = append(printable, byte(c))
	}
	for _, s := range []string{"", "a", " ", "~", "a b~", string(printable), string(make([]byte, 3))} {
		if v := der.Text(s); !equal(v, leaf(12, []byte(s)...)) {
			t.Errorf("%q: %+v", s, v)
		}
	}
	for c := range 256 {
		s := "a" + string([]byte{byte(c)})
		got, e := der.AsText(der.Text(s))
		if c >= 32 && c <= 126 {
			if got != s || e != api.OK {
				t.Errorf("%q: %q, %v", s, got, e)
			}
		} else if got != "" || e != api.ErrForm {
			t.Errorf("%q: %q, %v", s, got, e)
		}
	}
	if s, e := der.AsText(der.Text("")); s != "" || e != api.OK {
		t.Errorf("no bytes: %q, %v", s, e)
	}
	long := string(bytes.Repeat(printable, 100))
	if s, e := der.AsText(der.Text(long)); s != long || e != api.OK {
		t.Errorf("more than MaxBytes: %d bytes, %v", len(s), e)
	}
	for name, v := range map[string]api.Value{
		"another tag":     leaf(19, 'a'),
		"nested":          {Tag: 12, Nested: true},
		"with an element": {Tag: 12, Bytes: []byte("a"), Elements: []api.Value{leaf(5)}},
		"at the start":    leaf(12, 31, 'a'),
		"two runes":       der.Text("\u00e9a"),
		"the zero value":  {},
	} {
		if s, e := der.AsText(v); e != api.ErrForm || s != "" {
			t.Errorf("%s: %q, %v", name, s, e)
		}
	}
}

func TestBool(t *testing.T) { // P1.3, P1.4
	for b, want := range map[bool]byte{true: 255, false: 0} {
		if v := der.Bool(b); !equal(v, leaf(1, want)) {
			t.Errorf("Bool(%v): %+v", b, v)
		}
		if got, e := der.AsBool(der.Bool(b)); got != b || e != api.OK {
			t.Errorf("AsBool of %v: %v, %v", b, got, e)
		}
	}
	for name, v := range map[string]api.Value{
		"another tag":     leaf(2, 255),
		"1":               leaf(1, 1),
		"254":             leaf(1, 254),
		"no byte":         leaf(1),
		"two bytes":       leaf(1, 255, 255),
		"nested":          {Tag: 1, Nested: true, Bytes: []byte{255}},
		"with an element": {Tag: 1, Bytes: []byte{255}, Elements: []api.Value{leaf(5)}},
		"the zero value":  {},
	} {
		if b, e := der.AsBool(v); e != api.ErrForm || b {
			t.Errorf("%s: %v, %v", name, b, e)
		}
	}
}

func TestList(t *testing.T) { // P1.3, P1.4
	for name, l := range map[string][]api.Value{
		"nil":                  nil,
		"empty":                {},
		"one":                  {der.Int(5)},
		"several":              {der.Int(5), der.Text("x"), list(leaf(5), list()), nested(160, der.Bool(true))},
		"deeper than MaxDepth": {chain(leaf(5), 50)},
		"more than MaxBytes":   {leaf(4, make([]byte, 5000)...), leaf(5)},
	} {
		if v := der.List(l); !equal(v, list(l...)) {
			t.Errorf("%s: List: %+v", name, v)
		}
		if m, e := der.AsList(der.List(l)); e != api.OK || !equal(list(m...), list(l...)) {
			t.Errorf("%s: AsList: %+v, %v", name, m, e)
		}
	}
	for name, v := range unformed() {
		if w := der.List([]api.Value{v}); !equal(w, list(v)) {
			t.Errorf("%s: List: %+v", name, w)
		}
		for _, w := range []api.Value{v, list(v), list(leaf(5), v)} {
			if m, e := der.AsList(w); e != api.ErrForm || len(m) != 0 {
				t.Errorf("%s: AsList: %+v, %v", name, m, e)
			}
		}
	}
	for name, v := range map[string]api.Value{"tag 49": nested(49), "tag 160": nested(160, leaf(5)), "a number": der.Int(48)} {
		if m, e := der.AsList(v); e != api.ErrForm || len(m) != 0 {
			t.Errorf("%s: AsList: %+v, %v", name, m, e)
		}
	}
}

func TestSame(t *testing.T) { // P1.5
	different := []api.Value{
		{}, leaf(5), leaf(6), leaf(5, 0), leaf(5, 1), leaf(5, 0, 0), leaf(5, 0, 1), {Tag: 5, Nested: true}, leaf(-5), leaf(261),
		list(), leaf(48), list(leaf(5)), list(leaf(6)), list(leaf(5), leaf(5)), list(leaf(5), leaf(6)), list(leaf(6), leaf(5)), list(leaf(5, 1)), list(list()), list(list(leaf(5))), list(list(), leaf(5)),
		{Tag: 48, Nested: true, Bytes: []byte{1}}, {Tag: 48, Nested: true, Bytes: []byte{1}, Elements: []api.Value{leaf(5)}}, {Tag: 48, Elements: []api.Value{leaf(5)}},
		nested(49), chain(leaf(5), 30), chain(leaf(6), 30), chain(leaf(5), 31),
	}
	for i, a := range different {
		for j, b := range different {
			if got := der.Same(a, b); got != (i == j) {
				t.Errorf("%+v and %+v: %v", a, b, got)
			}
		}
		if !der.Same(a, plain(a)) {
			t.Errorf("%+v and its copy", a)
		}
	}
}

func TestEmptySlices(t *testing.T) { // R4
	empty := api.Value{Tag: 5, Bytes: []byte{}, Elements: []api.Value{}}
	if b, e := der.Encode(empty); e != api.OK || !bytes.Equal(b, []byte{5, 0}) || !der.Same(empty, leaf(5)) {
		t.Errorf("%v, %v", b, e)
	}
	empty = api.Value{Tag: 48, Nested: true, Bytes: []byte{}, Elements: []api.Value{}}
	if b, e := der.Encode(empty); e != api.OK || !bytes.Equal(b, []byte{48, 0}) || !der.Same(empty, list()) || !der.Same(list(), empty) {
		t.Errorf("%v, %v", b, e)
	}
	if l, e := der.AsList(empty); e != api.OK || len(l) != 0 {
		t.Errorf("%v, %v", l, e)
	}
	if v, e := der.Decode([]byte{}); e != api.ErrForm || !equal(v, api.Value{}) {
		t.Errorf("%v, %v", v, e)
	}
	if b, e := der.AsBool(api.Value{Tag: 1, Bytes: []byte{255}, Elements: []api.Value{}}); !b || e != api.OK {
		t.Errorf("%v, %v", b, e)
	}
}

// spoil changes all that an element refers to.
func spoil(v api.Value) {
	for i := range v.Bytes {
		v.Bytes[i] ^= 255
	}
	for i := range v.Elements {
		spoil(v.Elements[i])
		v.Elements[i].Tag++
	}
}

func TestMemory(t *testing.T) { // R3
	fresh := func() api.Value { return list(der.Int(5), list(der.Text("ab"), list(der.Bool(true))), leaf(4, 1, 2)) }
	v := fresh()
	b, _ := der.Encode(v)
	kept := bytes.Clone(b)
	for name, f := range map[string]func(api.Value) api.Value{
		"List":   func(v api.Value) api.Value { return der.List(v.Elements) },
		"AsList": func(v api.Value) api.Value { l, _ := der.AsList(v); return list(l...) },
		"Decode": func(api.Value) api.Value { w, _ := der.Decode(b); return w },
		"All":    func(api.Value) api.Value { l, _ := der.All(b); return l[0] },
	} {
		w := f(v)
		if !equal(w, fresh()) {
			t.Errorf("%s: %+v", name, w)
		}
		spoil(w)
		if !equal(v, fresh()) || !bytes.Equal(b, kept) {
			t.Errorf("%s: the result is the argument's memory", name)
		}
		v, b = fresh(), bytes.Clone(kept)
		w = f(v)
		spoil(v)
		for i := range b {
			b[i] = 9
		}
		if !equal(w, fresh()) {
			t.Errorf("%s: the argument is kept", name)
		}
		v, b = fresh(), bytes.Clone(kept)
	}
	one := leaf(4, 1, 2)
	b, _ = der.Encode(one)
	b[2] = 9
	if !equal(one, leaf(4, 1, 2)) {
		t.Error("Encode: the result is the argument's memory")
	}
}

func TestSharedMemory(t *testing.T) { // no two slices of a result share memory
	x := list(leaf(4, 1))
	v := der.List([]api.Value{x, x})
	spoil(v.Elements[0])
	if !equal(v.Elements[1], list(leaf(4, 1))) {
		t.Errorf("List: %+v", v)
	}
	l, _ := der.AsList(list(x, x))
	spoil(l[0])
	if !equal(l[1], list(leaf(4, 1))) {
		t.Errorf("AsList: %+v", l)
	}
}

// endless is elements that are within themselves, in several ways.
func endless() map[string]api.Value {
	once := make([]api.Value, 1)
	once[0] = list(once...)
	twice := make([]api.Value, 2)
	twice[0], twice[1] = list(twice...), list(twice...)
	far := make([]api.Value, 2)
	far[0], far[1] = leaf(5), chain(list(far...), 40)
	part := make([]api.Value, 2)
	part[0], part[1] = leaf(5), list(part[1:]...)
	return map[string]api.Value{"once": once[0], "twice": twice[0], "far below": far[1], "in a part": list(part...), "among others": list(leaf(5), list(once...), leaf(5))}
}

// What becomes of elements that no memory has room for is not said (R6), but each call has to return.

func TestEndless(t *testing.T) { // P1
	for name, v := range endless() {
		if b, e := der.Encode(v); e == api.OK || len(b) > 0 {
			t.Errorf("%s: Encode: %v, %v", name, b, e)
		}
		if b, e := der.Encode(list(v, leaf(0))); e != api.ErrForm || len(b) > 0 {
			t.Errorf("%s: Encode of what is not well formed: %v, %v", name, b, e)
		}
		if l, e := der.AsList(v); e != api.ErrForm || len(l) != 0 {
			t.Errorf("%s: AsList: %v", name, e)
		}
		der.List([]api.Value{v})
		if !der.Same(v, v) || der.Same(v, leaf(5)) || der.Same(list(v, leaf(5)), list(v, leaf(6))) {
			t.Errorf("%s: Same", name)
		}
		_, e := der.AsInt(v)
		_, f := der.AsText(v)
		_, g := der.AsBool(v)
		if e != api.ErrForm || f != api.ErrForm || g != api.ErrForm {
			t.Errorf("%s: %v, %v, %v", name, e, f, g)
		}
	}
}

func TestShared(t *testing.T) { // P1: few slices, and more elements than can be counted
	v, w, bad := leaf(5), leaf(5), leaf(0)
	for range 200 {
		v, w, bad = list(v, v, v), list(w, w, w), list(bad, bad)
	}
	if _, e := der.Encode(v); e != api.ErrLimit {
		t.Errorf("Encode: %v", e)
	}
	if _, e := der.Encode(bad); e != api.ErrForm {
		t.Errorf("Encode of what is not well formed: %v", e)
	}
	if !der.Same(v, w) || der.Same(v, bad) {
		t.Error("Same")
	}
	der.AsList(v)
	der.List([]api.Value{v})
	big := leaf(4, make([]byte, 1<<20)...)
	for range 16 { // 64 GiB, if it were copied
		big = list(big, big)
	}
	der.List([]api.Value{big})
	some := leaf(5)
	for range 10 {
		some = list(some, some)
	}
	l, e := der.AsList(der.List([]api.Value{some}))
	if e != api.OK || len(l) != 1 || !der.Same(l[0], some) {
		t.Errorf("a thousand: %v", e)
	}
	both := []api.Value{leaf(6), list()} // the second one has a part of the slice in which it is, but not itself
	both[1].Elements = both[:1]
	if v := der.List(both); !equal(v, list(leaf(6), list(leaf(6)))) {
		t.Errorf("a part of a slice: %+v", v)
	}
}

func TestLarge(t *testing.T) { // R1, R8
	deep := chain(leaf(5), 1000000)
	if _, e := der.Encode(deep); e != api.ErrLimit {
		t.Errorf("Encode of a deep one: %v", e)
	}
	if _, e := der.Encode(chain(leaf(0), 1000000)); e != api.ErrForm {
		t.Errorf("Encode of a deep one that is not well formed: %v", e)
	}
	if l, e := der.AsList(der.List([]api.Value{deep})); e != api.OK || len(l) != 1 || !der.Same(l[0], deep) {
		t.Errorf("AsList of a deep one: %v", e)
	}
	if der.Same(deep, chain(leaf(6), 1000000)) {
		t.Error("Same of deep ones")
	}
	wide := make([]api.Value, 1000000)
	for i := range wide {
		wide[i] = leaf(5)
	}
	if _, e := der.Encode(list(wide...)); e != api.ErrLimit {
		t.Errorf("Encode of a wide one: %v", e)
	}
	if l, e := der.AsList(der.List(wide)); e != api.OK || len(l) != len(wide) {
		t.Errorf("AsList of a wide one: %v", e)
	}
	wide[len(wide)-1] = leaf(31)
	if _, e := der.Encode(list(wide...)); e != api.ErrForm {
		t.Errorf("Encode of a wide one that is not well formed: %v", e)
	}
}

// random returns some well formed element.
func random(r *rand.Rand, depth int) api.Value {
	tag := 31
	for tag == 0 || tag%32 == 31 {
		tag = r.Intn(256)
	}
	if tag&32 == 0 {
		b := make([]byte, r.Intn(4)*r.Intn(90))
		r.Read(b)
		return leaf(tag, b...)
	}
	v := nested(tag)
	for depth > 1 && len(v.Elements) < 4 && r.Intn(4) > 0 {
		v.Elements = append(v.Elements, random(r, depth-1))
	}
	return v
}

func TestThereAndBack(t *testing.T) { // Consequences, R5
	r := rand.New(rand.NewSource(1))
	for range 20000 {
		v := random(r, 6)
		b, e := der.Encode(v)
		if e == api.ErrLimit {
			continue
		}
		again, _ := der.Encode(v)
		w, f := der.Decode(b)
		if e != api.OK || f != api.OK || !equal(v, w) || !der.Same(v, w) || !bytes.Equal(b, again) {
			t.Fatalf("%+v: %v, %v, %+v", v, e, f, w)
		}
		if len(b) == 0 {
			t.Fatalf("%+v: no bytes", v)
		}
		b[r.Intn(len(b))] = byte(r.Intn(256))
		checkAccepted(t, b)
	}
}

// checkAccepted checks that bytes, if they are accepted, are what their elements are written as.
func checkAccepted(t *testing.T, b []byte) {
	t.Helper()
	v, e := der.Decode(b)
	if c, f := der.Encode(v); e == api.OK && (f != api.OK || !bytes.Equal(b, c)) {
		t.Fatalf("%v: %+v, %v, %v", b, v, f, c)
	}
	l, e := der.All(b)
	if e != api.OK {
		return
	}
	var c []byte
	for _, v := range l {
		d, _ := der.Encode(v)
		c = append(c, d...)
	}
	if !bytes.Equal(b, c) {
		t.Fatalf("%v: %+v, %v", b, l, c)
	}
}

func TestAccepted(t *testing.T) { // Consequences: all short bytes of an alphabet
	alphabet := []byte{0, 1, 2, 3, 4, 5, 31, 48, 127, 128, 129, 130, 160, 255}
	var b []byte
	var try func(left int)
	try = func(left int) {
		checkAccepted(t, b)
		if left == 0 {
			return
		}
		for _, c := range alphabet {
			b = append(b, c)
			try(left - 1)
			b = b[:len(b)-1]
		}
	}
	try(5)
}

func FuzzDecode(f *testing.F) {
	for _, x := range written() {
		f.Add(x.b)
	}
	f.Fuzz(func(t *testing.T, b []byte) { checkAccepted(t, b) })
}

func BenchmarkEncode(b *testing.B) {
	v := list(list(der.Int(1), der.Text("issuer"), der.Text("subject"), list(der.Int(5), der.Int(2048)), der.Int(77), list(der.Int(3), der.Int(0)), der.Int(100), der.Int(200), der.Bool(true), der.Int(2), list(der.Text("a"), der.Text("b"))), list(der.Int(77), der.Int(1<<31)))
	for b.Loop() {
		der.Encode(v)
	}
}

func BenchmarkAsList(b *testing.B) {
	v := list(list(der.Int(1), der.Text("issuer"), der.Text("subject"), list(der.Int(5), der.Int(2048)), der.Int(77), list(der.Int(3), der.Int(0)), der.Int(100), der.Int(200), der.Bool(true), der.Int(2), list(der.Text("a"), der.Text("b"))), list(der.Int(77), der.Int(1<<31)))
	for b.Loop() {
		der.AsList(v)
	}
}

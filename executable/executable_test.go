package executable_test

import (
	"bytes"
	"cipherplan/api"
	"cipherplan/executable"
	"fmt"
	"math/rand"
	"reflect"
	"slices"
	"strings"
	"testing"
)

func section(name string, b ...byte) api.Section { return api.Section{Name: name, Bytes: b} }

func image() api.Image {
	return api.Image{Sections: []api.Section{section("code", 1, 2, 3), section(".data")}, Symbols: []api.Symbol{{Name: "md5_init", Value: 258}, {Name: "main", Value: 1<<32 - 1}}}
}

func with(f func(*api.Image)) api.Image {
	i := image()
	f(&i)
	return i
}

// many returns an executable with so many sections and symbols.
func many(sections, symbols int) api.Image {
	var i api.Image
	for n := range sections {
		i.Sections = append(i.Sections, section(fmt.Sprint("s", n)))
	}
	for n := range symbols {
		i.Symbols = append(i.Symbols, api.Symbol{Name: fmt.Sprint("s", n)})
	}
	return i
}

// sized returns an executable of so many bytes.
func sized(n int) api.Image {
	return api.Image{Sections: []api.Section{section("a", make([]byte, n-9)...)}}
}

func TestBytes(t *testing.T) { // P10.1
	b, e := executable.Encode(image())
	want := "XE\x01\x02\x04code\x00\x03\x01\x02\x03\x05.data\x00\x00\x02\x08md5_init\x00\x00\x01\x02\x04main\xff\xff\xff\xff"
	if e != api.OK || string(b) != want {
		t.Errorf("%q, %v", b, e)
	}
	if b, e := executable.Encode(api.Image{}); e != api.OK || string(b) != "XE\x01\x00\x00" {
		t.Errorf("%q, %v", b, e)
	}
	for name, i := range map[string]api.Image{"image": image(), "none": {}, "most": many(16, 64), "4096": sized(4096), "long": with(func(i *api.Image) { i.Symbols[0].Name = strings.Repeat("~", 32) }), "a name for both": with(func(i *api.Image) { i.Symbols[0].Name = "code" })} {
		b, e := executable.Encode(i)
		d, f := executable.Decode(b)
		if e != api.OK || f != api.OK || !executable.Same(i, d) || executable.Check(i) != api.OK {
			t.Errorf("%s: %v, %v, %v", name, d, e, f)
		}
	}
}

func TestWrong(t *testing.T) { // P10.1
	for name, i := range map[string]api.Image{
		"17 sections":    many(17, 0),
		"65 symbols":     many(0, 65),
		"4097 bytes":     sized(4097),
		"huge":           sized(100000),
		"no name":        with(func(i *api.Image) { i.Sections[0].Name = "" }),
		"a blank":        with(func(i *api.Image) { i.Sections[0].Name = "a b" }),
		"long":           with(func(i *api.Image) { i.Sections[0].Name = strings.Repeat("a", 33) }),
		"sections twice": with(func(i *api.Image) { i.Sections[1].Name = "code" }),
		"symbol":         with(func(i *api.Image) { i.Symbols[1].Name = "\x7f" }),
		"no symbol":      with(func(i *api.Image) { i.Symbols[1].Name = "" }),
		"symbols twice":  with(func(i *api.Image) { i.Symbols[1].Name = "md5_init" }),
		"value":          with(func(i *api.Image) { i.Symbols[1].Value = -1 }),
		"great value":    with(func(i *api.Image) { i.Symbols[1].Value = 1 << 32 }),
	} {
		if e := executable.Check(i); e != api.ErrImage {
			t.Errorf("%s: %v", name, e)
		}
		if b, e := executable.Encode(i); e != api.ErrImage || len(b) > 0 {
			t.Errorf("%s: %v", name, e)
		}
	}
}

func TestDecode(t *testing.T) { // P10.1: errors in their order
	b, _ := executable.Encode(image())
	for n := range b {
		if i, e := executable.Decode(b[:n]); e != api.ErrForm || !reflect.DeepEqual(i, api.Image{}) {
			t.Errorf("%d bytes: %v, %v", n, i, e)
		}
	}
	for s, want := range map[string]api.Errno{
		string(b) + "\x00":                                          api.ErrForm,
		"XE\x02\x00\x00":                                            api.ErrForm,
		"EX\x01\x00\x00":                                            api.ErrForm,
		"xE\x01\x00\x00":                                            api.ErrForm,
		"XE\x01\x01\x00\x00\x00\x00":                                api.ErrImage,
		"XE\x01\x00\x01\x01 \x00\x00\x00\x00":                       api.ErrImage,
		"XE\x01\x02\x01a\x00\x00\x01a\x00\x00\x00":                  api.ErrImage,
		"XE\x01\x02\x01a\x00\x00\x01a\x00\x00\x00\x00":              api.ErrForm,
		"XE\x01\x01\x21" + strings.Repeat("a", 33) + "\x00\x00\x00": api.ErrImage,
		"XE\x01\x11" + strings.Repeat("\x00\x00\x00", 17) + "\x00":  api.ErrImage,
		"XE\x01\xff\x00":                                            api.ErrForm,
		strings.Repeat("X", 4097):                                   api.ErrLimit,
		strings.Repeat("X", 4096):                                   api.ErrForm,
	} {
		if i, e := executable.Decode([]byte(s)); e != want || !reflect.DeepEqual(i, api.Image{}) {
			t.Errorf("%q: %v, %v", s, i, e)
		}
	}
}

func TestAgain(t *testing.T) { // what is read is what is written
	r := rand.New(rand.NewSource(1))
	b, _ := executable.Encode(image())
	for range 20000 {
		c := bytes.Clone(b)
		for range 1 + r.Intn(3) {
			c[r.Intn(len(c))] = byte(r.Intn(8) * r.Intn(40))
		}
		if i, e := executable.Decode(c); e == api.OK {
			if d, e := executable.Encode(i); e != api.OK || !bytes.Equal(c, d) {
				t.Fatalf("%q, %q", c, d)
			}
		}
	}
}

func TestSection(t *testing.T) { // P10.2
	i := with(func(i *api.Image) { i.Sections = append(i.Sections, section("code", 9)) })
	for name, want := range map[string]string{"code": "\x01\x02\x03", ".data": ""} {
		if b, ok := executable.Section(i, name); !ok || string(b) != want {
			t.Errorf("%s: %q, %v", name, b, ok)
		}
	}
	if b, ok := executable.Section(i, "x"); ok || len(b) > 0 {
		t.Errorf("%q, %v", b, ok)
	}
}

func TestAlgorithms(t *testing.T) { // P10.2
	var i api.Image
	for _, name := range []string{"sha256_md5", "md_5", "md5", "md5_init", "_rsa", "rsakx__x", "Rsa", "rc4x", "", "aead_", "x_des3"} {
		i.Symbols = append(i.Symbols, api.Symbol{Name: name})
	}
	if l := executable.Algorithms(i); !slices.Equal(l, []int{api.MD5, api.SHA256, api.RSAKX, api.AEAD}) {
		t.Error(l)
	}
	if l := executable.Algorithms(api.Image{}); len(l) > 0 {
		t.Error(l)
	}
}

func TestSame(t *testing.T) { // P10.2
	for name, f := range map[string]func(*api.Image){
		"section":  func(i *api.Image) { i.Sections[0].Name = "x" },
		"byte":     func(i *api.Image) { i.Sections[0].Bytes[1]++ },
		"sections": func(i *api.Image) { i.Sections = i.Sections[:1] },
		"symbol":   func(i *api.Image) { i.Symbols[0].Name = "x" },
		"value":    func(i *api.Image) { i.Symbols[1].Value-- },
		"symbols":  func(i *api.Image) { i.Symbols = nil },
		"order":    func(i *api.Image) { slices.Reverse(i.Symbols) },
	} {
		if i := with(f); executable.Same(i, image()) || !executable.Same(i, i) {
			t.Error(name)
		}
	}
	if !executable.Same(api.Image{}, api.Image{Sections: []api.Section{}}) {
		t.Error("empty")
	}
}

func TestMemory(t *testing.T) { // R3
	i := image()
	b, _ := executable.Encode(i)
	apart(t, "Encode", func() []byte { b, _ := executable.Encode(i); return b }, i)
	apart(t, "Decode", func() api.Image { i, _ := executable.Decode(b); return i }, b)
	apart(t, "Section", func() []byte { b, _ := executable.Section(i, "code"); return b }, i)
	apart(t, "Algorithms", func() []int { return executable.Algorithms(i) }, i)
}

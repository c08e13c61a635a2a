package catalog_test

import (
	"cipherplan/api"
	"cipherplan/catalog"
	"math"
	"strings"
	"testing"
)

// kinds is the table of algorithms of the chapter, without sizes.
const kinds = `md5 1|sha1 1|sha256 1|sha384 1|rsa 2|dsa 2|ecdsa 2|ed25519 2|mldsa 2|rsakx 3|dhe 3|ecdhe 3|mlkem 3|rc4 4|des3 4|aescbc 4|aesgcm 4|chacha 4|hmacmd5 5|hmacsha1 5|hmacsha256 5|aead 5`

// strong returns the strengths of the chapter for all uses with few sizes.
func strong() map[string]int {
	return map[string]int{
		"md5": 18, "sha1": 60, "sha256": 128, "sha384": 192, "ed25519": 128,
		"ecdsa-160": 80, "ecdsa-224": 112, "ecdsa-256": 128, "ecdsa-384": 192, "ecdsa-521": 260,
		"ecdhe-160": 80, "ecdhe-224": 112, "ecdhe-256": 128, "ecdhe-384": 192, "ecdhe-521": 260,
		"mldsa-44": 128, "mldsa-65": 192, "mldsa-87": 256, "mlkem-512": 128, "mlkem-768": 192, "mlkem-1024": 256,
		"rc4-40": 40, "rc4-128": 60, "des3-112": 80, "des3-168": 112,
		"aescbc-128": 128, "aescbc-256": 256, "aesgcm-128": 128, "aesgcm-256": 256, "chacha": 256,
		"hmacmd5": 64, "hmacsha1": 80, "hmacsha256": 128, "aead": 256,
	}
}

func TestNames(t *testing.T) { // P2.1
	for i, s := range strings.Split(kinds, "|") {
		name, kind, _ := strings.Cut(s, " ")
		if catalog.Name(i+1) != name || catalog.Find(name) != i+1 || catalog.Kind(i+1) != int(kind[0]-'0') {
			t.Errorf("%d: %q, %d, %d", i+1, catalog.Name(i+1), catalog.Find(name), catalog.Kind(i+1))
		}
	}
	for _, alg := range []int{0, -1, 23, math.MaxInt, math.MinInt} {
		if catalog.Name(alg) != "" || catalog.Kind(alg) != 0 {
			t.Errorf("%d: %q, %d", alg, catalog.Name(alg), catalog.Kind(alg))
		}
	}
	for _, name := range []string{"", "MD5", "rsa ", "rsa-2048", "sha", "md55"} {
		if n := catalog.Find(name); n != 0 {
			t.Errorf("%q: %d", name, n)
		}
	}
}

func TestSizes(t *testing.T) { // P2.1 and P2.2: the uses of the chapter are valid, and no others
	found := 0
	for alg := -1; alg <= 30; alg++ {
		if alg == api.RSA || alg == api.DSA || alg == api.RSAKX || alg == api.DHE {
			continue
		}
		for bits := -1; bits <= 2100; bits++ {
			u := api.Use{Alg: alg, Bits: bits}
			s := catalog.Text(u)
			if want := strong()[s]; catalog.Strength(u) != want || catalog.Valid(u) != (want > 0) || catalog.Valid(u) != (s != "") {
				t.Errorf("%v: %q, %d, not %d", u, s, catalog.Strength(u), want)
			}
			if s != "" {
				found++
				if v, e := catalog.Parse(s); v != u || e != api.OK {
					t.Errorf("%q: %v, %v", s, v, e)
				}
			}
		}
	}
	if found != len(strong()) {
		t.Errorf("%d uses", found)
	}
}

func TestLongKeys(t *testing.T) { // P2.1: R
	for bits, want := range map[int]int{512: 56, 1023: 56, 1024: 80, 2047: 80, 2048: 112, 3071: 112, 3072: 128, 7679: 128, 7680: 192, 15359: 192, 15360: 256, 16384: 256, 511: 0, 16385: 0, 0: 0, -2048: 0, math.MaxInt: 0, math.MinInt: 0} {
		for _, alg := range []int{api.RSA, api.DSA, api.RSAKX, api.DHE} {
			u := api.Use{Alg: alg, Bits: bits}
			if catalog.Strength(u) != want || catalog.Valid(u) != (want > 0) {
				t.Errorf("%v: %d, not %d", u, catalog.Strength(u), want)
			}
		}
	}
	for bits := 513; bits <= api.MaxBits; bits++ {
		u := api.Use{Alg: api.RSA, Bits: bits}
		if catalog.Strength(u) < catalog.Strength(api.Use{Alg: api.RSA, Bits: bits - 1}) {
			t.Errorf("%d bits are weaker than less", bits)
		}
		if v, e := catalog.Parse(catalog.Text(u)); v != u || e != api.OK {
			t.Errorf("%v: %v, %v", u, v, e)
		}
	}
}

func TestTexts(t *testing.T) { // P2.2
	if s := catalog.Text(api.Use{Alg: api.RSA, Bits: 2048}); s != "rsa-2048" {
		t.Error(s)
	}
	if s := catalog.Text(api.Use{Alg: api.MD5}); s != "md5" {
		t.Error(s)
	}
	for _, s := range []string{"", "-", "rsa", "rsa-", "rsa-0", "rsa-511", "rsa-16385", "rsa-02048", "rsa-+2048", "rsa--2048", "rsa-2048-", "rsa-2048 ", " rsa-2048", "rsa-99999999999999999999", "md5-0", "md5-", "md5-128", "Rsa-2048", "x-1", "-2048", "rsa-2_048", "rsa-0x800"} {
		if u, e := catalog.Parse(s); e != api.ErrUse || u != (api.Use{}) {
			t.Errorf("%q: %v, %v", s, u, e)
		}
	}
}

// table is the table of suites of the chapter.
const table = `rsa-rc4-md5 | rsakx | rsa | rc4-128 | hmacmd5 | 1 2
rsa-rc4-sha | rsakx | rsa | rc4-128 | hmacsha1 | 1 3
rsa-des3-sha | rsakx | rsa | des3-168 | hmacsha1 | 1 3
dhe-dsa-des3-sha | dhe-1024 | dsa | des3-168 | hmacsha1 | 1 3
dhe-rsa-des3-sha | dhe-1024 | rsa | des3-168 | hmacsha1 | 1 3
rsa-aes128-sha | rsakx | rsa | aescbc-128 | hmacsha1 | 1 3
dhe-rsa-aes128-sha | dhe-2048 | rsa | aescbc-128 | hmacsha1 | 1 3
ecdhe-rsa-aes128-sha | ecdhe-256 | rsa | aescbc-128 | hmacsha1 | 1 3
ecdhe-ecdsa-aes256-sha256 | ecdhe-256 | ecdsa | aescbc-256 | hmacsha256 | 3 3
ecdhe-rsa-aes128-gcm | ecdhe-256 | rsa | aesgcm-128 | aead | 3 3
ecdhe-ecdsa-aes256-gcm | ecdhe-384 | ecdsa | aesgcm-256 | aead | 3 3
ecdhe-rsa-chacha | ecdhe-256 | rsa | chacha | aead | 3 3
rsa-aes256-gcm | rsakx | rsa | aesgcm-256 | aead | 3 3
aes128-gcm | ecdhe-256 | - | aesgcm-128 | aead | 4 4
chacha | ecdhe-256 | - | chacha | aead | 4 4
mlkem-aes256-gcm | mlkem-768 | - | aesgcm-256 | aead | 4 4`

// text returns the text of a use of the table.
func text(u api.Use) string {
	if u == (api.Use{}) {
		return "-"
	}
	if u.Bits == 0 {
		return catalog.Name(u.Alg)
	}
	return catalog.Text(u)
}

func TestSuites(t *testing.T) { // P2.3
	lines := strings.Split(table, "\n")
	l := catalog.Suites()
	if len(l) != len(lines) {
		t.Fatalf("%d suites", len(l))
	}
	for i, s := range l {
		line := strings.Join([]string{s.Name, text(s.Exchange), text(s.Sign), text(s.Cipher), text(s.Mac), string(rune('0'+s.Least)) + " " + string(rune('0'+s.Most))}, " | ")
		if line != lines[i] || s.Code != i+1 {
			t.Errorf("%d: %s", s.Code, line)
		}
		if u, e := catalog.Suite(i + 1); u != s || e != api.OK || catalog.Code(s.Name) != i+1 {
			t.Errorf("%d: %v, %v", i+1, u, e)
		}
	}
	l[0].Name = "another"
	if catalog.Suites()[0].Name != "rsa-rc4-md5" {
		t.Error("results share memory")
	}
}

func TestNoSuite(t *testing.T) { // P2.3
	for _, code := range []int{0, -1, 17, math.MaxInt, math.MinInt} {
		if s, e := catalog.Suite(code); s != (api.Suite{}) || e != api.ErrSuite {
			t.Errorf("%d: %v, %v", code, s, e)
		}
	}
	for _, name := range []string{"", "all", "Chacha", "rsa-rc4", "rsa-rc4-md5 "} {
		if n := catalog.Code(name); n != 0 {
			t.Errorf("%q: %d", name, n)
		}
	}
}

package catalog

import "cipherplan/api"

// named is a row of the table of algorithms. Those with a strength have no sizes.
type named struct {
	name     string
	kind     uint8
	strength uint16
}

var algorithms = [...]named{
	api.MD5:        {"md5", api.KindHash, 18},
	api.SHA1:       {"sha1", api.KindHash, 60},
	api.SHA256:     {"sha256", api.KindHash, 128},
	api.SHA384:     {"sha384", api.KindHash, 192},
	api.RSA:        {"rsa", api.KindSign, 0},
	api.DSA:        {"dsa", api.KindSign, 0},
	api.ECDSA:      {"ecdsa", api.KindSign, 0},
	api.ED25519:    {"ed25519", api.KindSign, 128},
	api.MLDSA:      {"mldsa", api.KindSign, 0},
	api.RSAKX:      {"rsakx", api.KindExchange, 0},
	api.DHE:        {"dhe", api.KindExchange, 0},
	api.ECDHE:      {"ecdhe", api.KindExchange, 0},
	api.MLKEM:      {"mlkem", api.KindExchange, 0},
	api.RC4:        {"rc4", api.KindCipher, 0},
	api.DES3:       {"des3", api.KindCipher, 0},
	api.AESCBC:     {"aescbc", api.KindCipher, 0},
	api.AESGCM:     {"aesgcm", api.KindCipher, 0},
	api.CHACHA:     {"chacha", api.KindCipher, 256},
	api.HMACMD5:    {"hmacmd5", api.KindMac, 64},
	api.HMACSHA1:   {"hmacsha1", api.KindMac, 80},
	api.HMACSHA256: {"hmacsha256", api.KindMac, 128},
	api.AEAD:       {"aead", api.KindMac, 256},
}

// algorithm returns the row of an algorithm, the zero row without one.
func algorithm(alg int) named {
	if alg < 0 || alg >= len(algorithms) {
		return named{}
	}
	return algorithms[alg]
}

// only returns a strength if it applies, otherwise 0.
func only(applies bool, strength int) int {
	if applies {
		return strength
	}
	return 0
}

// long returns the strength of numbers that are factored.
func long(bits int) int {
	switch {
	case bits < 1024:
		return 56
	case bits < 2048:
		return 80
	case bits < 3072:
		return 112
	case bits < 7680:
		return 128
	case bits < 15360:
		return 192
	}
	return 256
}

// isCurve reports whether there is a curve of a size.
func isCurve(bits int) bool {
	switch bits {
	case 160, 224, 256, 384, 521:
		return true
	}
	return false
}

// ofSize returns the strength of the algorithms each size of which has its own.
func ofSize(u api.Use) int {
	switch u {
	case api.Use{Alg: api.RC4, Bits: 40}:
		return 40
	case api.Use{Alg: api.RC4, Bits: 128}:
		return 60
	case api.Use{Alg: api.DES3, Bits: 112}:
		return 80
	case api.Use{Alg: api.DES3, Bits: 168}:
		return 112
	case api.Use{Alg: api.MLDSA, Bits: 44}, api.Use{Alg: api.MLKEM, Bits: 512}:
		return 128
	case api.Use{Alg: api.MLDSA, Bits: 65}, api.Use{Alg: api.MLKEM, Bits: 768}:
		return 192
	case api.Use{Alg: api.MLDSA, Bits: 87}, api.Use{Alg: api.MLKEM, Bits: 1024}:
		return 256
	}
	return 0
}

// Codes of suites.
const (
	_ = iota
	rsaRC4MD5
	rsaRC4SHA
	rsaDES3SHA
	dheDSADES3SHA
	dheRSADES3SHA
	rsaAES128SHA
	dheRSAAES128SHA
	ecdheRSAAES128SHA
	ecdheECDSAAES256SHA256
	ecdheRSAAES128GCM
	ecdheECDSAAES256GCM
	ecdheRSAChacha
	rsaAES256GCM
	aes128GCM
	chacha
	mlkemAES256GCM
)

// use is an api.Use in few bytes: tables of packages are short.
type use struct {
	alg  uint8
	bits uint16
}

// row is a row of the table of suites. Its signature has no size.
type row struct {
	name             string
	exchange, cipher use
	sign, mac        uint8
	least, most      uint8
}

var rows = [...]row{
	rsaRC4MD5:              {"rsa-rc4-md5", use{api.RSAKX, 0}, use{api.RC4, 128}, api.RSA, api.HMACMD5, 1, 2},
	rsaRC4SHA:              {"rsa-rc4-sha", use{api.RSAKX, 0}, use{api.RC4, 128}, api.RSA, api.HMACSHA1, 1, 3},
	rsaDES3SHA:             {"rsa-des3-sha", use{api.RSAKX, 0}, use{api.DES3, 168}, api.RSA, api.HMACSHA1, 1, 3},
	dheDSADES3SHA:          {"dhe-dsa-des3-sha", use{api.DHE, 1024}, use{api.DES3, 168}, api.DSA, api.HMACSHA1, 1, 3},
	dheRSADES3SHA:          {"dhe-rsa-des3-sha", use{api.DHE, 1024}, use{api.DES3, 168}, api.RSA, api.HMACSHA1, 1, 3},
	rsaAES128SHA:           {"rsa-aes128-sha", use{api.RSAKX, 0}, use{api.AESCBC, 128}, api.RSA, api.HMACSHA1, 1, 3},
	dheRSAAES128SHA:        {"dhe-rsa-aes128-sha", use{api.DHE, 2048}, use{api.AESCBC, 128}, api.RSA, api.HMACSHA1, 1, 3},
	ecdheRSAAES128SHA:      {"ecdhe-rsa-aes128-sha", use{api.ECDHE, 256}, use{api.AESCBC, 128}, api.RSA, api.HMACSHA1, 1, 3},
	ecdheECDSAAES256SHA256: {"ecdhe-ecdsa-aes256-sha256", use{api.ECDHE, 256}, use{api.AESCBC, 256}, api.ECDSA, api.HMACSHA256, 3, 3},
	ecdheRSAAES128GCM:      {"ecdhe-rsa-aes128-gcm", use{api.ECDHE, 256}, use{api.AESGCM, 128}, api.RSA, api.AEAD, 3, 3},
	ecdheECDSAAES256GCM:    {"ecdhe-ecdsa-aes256-gcm", use{api.ECDHE, 384}, use{api.AESGCM, 256}, api.ECDSA, api.AEAD, 3, 3},
	ecdheRSAChacha:         {"ecdhe-rsa-chacha", use{api.ECDHE, 256}, use{api.CHACHA, 0}, api.RSA, api.AEAD, 3, 3},
	rsaAES256GCM:           {"rsa-aes256-gcm", use{api.RSAKX, 0}, use{api.AESGCM, 256}, api.RSA, api.AEAD, 3, 3},
	aes128GCM:              {"aes128-gcm", use{api.ECDHE, 256}, use{api.AESGCM, 128}, 0, api.AEAD, 4, 4},
	chacha:                 {"chacha", use{api.ECDHE, 256}, use{api.CHACHA, 0}, 0, api.AEAD, 4, 4},
	mlkemAES256GCM:         {"mlkem-aes256-gcm", use{api.MLKEM, 768}, use{api.AESGCM, 256}, 0, api.AEAD, 4, 4},
}

// suite returns the suite of a row that there is.
func suite(code int) api.Suite {
	r := rows[code]
	return api.Suite{
		Code:     code,
		Name:     r.name,
		Exchange: r.exchange.whole(),
		Sign:     api.Use{Alg: int(r.sign)},
		Cipher:   r.cipher.whole(),
		Mac:      api.Use{Alg: int(r.mac)},
		Least:    int(r.least),
		Most:     int(r.most),
	}
}

// whole returns the use.
func (u use) whole() api.Use {
	return api.Use{Alg: int(u.alg), Bits: int(u.bits)}
}

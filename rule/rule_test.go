package rule_test

import (
	"cipherplan/api"
	"cipherplan/rule"
	"math/rand"
	"slices"
	"strings"
	"testing"
)

const end = api.MaxDay + 1

func rules(l ...api.Rule) api.Policy { return api.Policy{Rules: l} }

func TestParse(t *testing.T) { // P17.1
	for text, want := range map[string]api.Policy{
		"":                    {},
		"\n\n# forbid\n#":     {},
		"forbid any":          rules(api.Rule{To: end}),
		"allow md5\n":         rules(api.Rule{Allow: true, Alg: api.MD5, To: end}),
		"forbid aead until 1": rules(api.Rule{Alg: api.AEAD, To: 1}),
		"forbid rsa below 2048 for sign from 100":               rules(api.Rule{Alg: api.RSA, Below: 2048, Purpose: api.PurposeSign, From: 100, To: end}),
		"allow any below 16384 for code from 0 until 40001":     rules(api.Rule{Allow: true, Below: 16384, Purpose: api.PurposeCode, To: end}),
		"forbid any below 0 for transport from 40000":           rules(api.Rule{Purpose: api.PurposeTransport, From: 40000, To: end}),
		"keep backup 0\nforbid any for backup\nkeep sign 40000": {Rules: []api.Rule{{Purpose: api.PurposeBackup, To: end}}, Keeps: []api.Keep{{Purpose: 3}, {Purpose: 2, Days: 40000}}},
		"keep transport 7\nkeep code 8\nkeep transport 9":       {Keeps: []api.Keep{{Purpose: 1, Days: 7}, {Purpose: 4, Days: 8}, {Purpose: 1, Days: 9}}},
		strings.Repeat("forbid any\nkeep code 1\n", 60):         {Rules: slices.Repeat([]api.Rule{{To: end}}, 60), Keeps: slices.Repeat([]api.Keep{{Purpose: 4, Days: 1}}, 60)},
		strings.Repeat("\n", 200) + "forbid any":                rules(api.Rule{To: end}),
		"#" + strings.Repeat("x", 8180) + "\nforbid any":        rules(api.Rule{To: end}),
	} {
		p, n, e := rule.Parse(text)
		if e != api.OK || n != 0 || !rule.Same(p, want) {
			t.Errorf("%q: %v, %d, %v", text, p, n, e)
		}
	}
}

func TestForms(t *testing.T) { // P17.1
	for _, line := range []string{"forbid", "allow", "x", "Forbid any", "forbid all", "forbid any ", " forbid any", "forbid  any", "forbid any\t", "forbid\tany", "forbid any x", "forbid any below", "forbid any below x", "forbid any below 01", "forbid any below -1", "forbid any below 1 below 2", "forbid any for", "forbid any for all", "forbid any for Sign", "forbid any from 1 for sign", "forbid any until 5 from 1", "forbid any from", "forbid any until", "forbid any until 1000000000000000", "forbid any below 2048x", "forbid rsa-2048", "forbid any any", "keep", "keep sign", "keep all 1", "keep sign x", "keep sign 01", "keep sign 1 2", "keep 1 sign", "keep sign  1", "forbid any for sign below 5", " ", " # x", "forbid any from 1 until 2 3", "forbid any from 5 until 3 x"} {
		if p, n, e := rule.Parse("keep sign 1\n\n" + line + "\nkeep"); e != api.ErrForm || n != 3 || len(p.Keeps) > 0 {
			t.Errorf("%q: %v, %d, %v", line, p, n, e)
		}
	}
}

func TestNotValid(t *testing.T) { // P17.1
	for _, line := range []string{"forbid any below 16385", "forbid any from 40001", "forbid any until 0", "forbid any from 5 until 5", "forbid any from 6 until 5", "forbid any until 40002", "keep sign 40001", "forbid any below 999999999999999", "forbid any from 999999999999999"} {
		if p, n, e := rule.Parse("# x\n" + line + "\nkeep sign 40001"); e != api.ErrRule || n != 2 || len(p.Rules) > 0 {
			t.Errorf("%q: %v, %d, %v", line, p, n, e)
		}
		if _, n, e := rule.Parse(line + "\n\nx"); e != api.ErrForm || n != 3 {
			t.Errorf("%q: %d, %v", line, n, e)
		}
	}
	for name, x := range map[string]struct {
		text string
		n    int
		e    api.Errno
	}{
		"61 rules":           {strings.Repeat("forbid any\n", 61), 0, api.ErrLimit},
		"61 keeps":           {strings.Repeat("keep sign 1\n", 61), 0, api.ErrLimit},
		"rule before limit":  {strings.Repeat("forbid any\n", 61) + "keep sign 40001", 62, api.ErrRule},
		"form before limit":  {strings.Repeat("forbid any\n", 61) + "keep sign", 62, api.ErrForm},
		"201 lines":          {strings.Repeat("\n", 201), 0, api.ErrLimit},
		"8193 bytes":         {"x" + strings.Repeat("\n", 8192), 0, api.ErrLimit},
		"8193 bytes in one":  {strings.Repeat("x", 8193), 0, api.ErrLimit},
		"8192 bytes of none": {strings.Repeat("x", 8192), 1, api.ErrForm},
	} {
		if p, n, e := rule.Parse(x.text); e != x.e || n != x.n || len(p.Rules)+len(p.Keeps) > 0 {
			t.Errorf("%s: %v, %d, %v", name, p, n, e)
		}
	}
}

func TestCheck(t *testing.T) { // P17.2
	for name, x := range map[string]struct {
		p    api.Policy
		want api.Errno
	}{
		"none":      {api.Policy{}, api.OK},
		"extremes":  {api.Policy{Rules: []api.Rule{{Alg: 22, Below: 16384, Purpose: 4, From: 40000, To: end}, {To: 1}}, Keeps: []api.Keep{{Purpose: 1}, {Purpose: 4, Days: 40000}}}, api.OK},
		"60":        {rules(slices.Repeat([]api.Rule{{To: 1}}, 60)...), api.OK},
		"61":        {rules(slices.Repeat([]api.Rule{{To: 1}}, 61)...), api.ErrRule},
		"61 keeps":  {api.Policy{Keeps: slices.Repeat([]api.Keep{{Purpose: 1}}, 61)}, api.ErrRule},
		"alg":       {rules(api.Rule{To: 1}, api.Rule{Alg: -1, To: 1}), api.ErrRule},
		"alg 23":    {rules(api.Rule{Alg: 23, To: 1}), api.ErrRule},
		"below":     {rules(api.Rule{Below: -1, To: 1}), api.ErrRule},
		"below2":    {rules(api.Rule{Below: 16385, To: 1}), api.ErrRule},
		"purpose":   {rules(api.Rule{Purpose: -1, To: 1}), api.ErrRule},
		"purpose 5": {rules(api.Rule{Purpose: 5, To: 1}), api.ErrRule},
		"from":      {rules(api.Rule{From: -1, To: 1}), api.ErrRule},
		"no days":   {rules(api.Rule{From: 1, To: 1}), api.ErrRule},
		"zero":      {rules(api.Rule{}), api.ErrRule},
		"to":        {rules(api.Rule{To: end + 1}), api.ErrRule},
		"keep 0":    {api.Policy{Keeps: []api.Keep{{Days: 1}}}, api.ErrRule},
		"keep 5":    {api.Policy{Keeps: []api.Keep{{Purpose: 5}}}, api.ErrRule},
		"keep -1":   {api.Policy{Keeps: []api.Keep{{Purpose: 1, Days: -1}}}, api.ErrRule},
		"keep days": {api.Policy{Keeps: []api.Keep{{Purpose: 1, Days: 40001}}}, api.ErrRule},
	} {
		if e := rule.Check(x.p); e != x.want {
			t.Errorf("%s: %v", name, e)
		}
		if s, e := rule.Print(x.p); e != x.want || e != api.OK && s != "" {
			t.Errorf("%s: %q, %v", name, s, e)
		}
	}
}

func TestPrint(t *testing.T) { // P17.2
	p := api.Policy{
		Rules: []api.Rule{{To: end}, {Allow: true, Alg: api.RSA, Below: 2048, Purpose: 2, From: 100, To: 200}, {Alg: api.CHACHA, From: 1, To: 40000}, {Below: 1, To: end}},
		Keeps: []api.Keep{{Purpose: 3, Days: 0}, {Purpose: 1, Days: 40000}},
	}
	want := "forbid any\nallow rsa below 2048 for sign from 100 until 200\nforbid chacha from 1 until 40000\nforbid any below 1\nkeep backup 0\nkeep transport 40000\n"
	if s, e := rule.Print(p); e != api.OK || s != want {
		t.Errorf("%q, %v", s, e)
	}
	if s, e := rule.Print(api.Policy{}); e != api.OK || s != "" {
		t.Errorf("%q, %v", s, e)
	}
}

func TestReadBack(t *testing.T) { // consequences
	r := rand.New(rand.NewSource(1))
	for range 2000 {
		var p api.Policy
		for range r.Intn(6) {
			from := r.Intn(3) * r.Intn(1000)
			p.Rules = append(p.Rules, api.Rule{Allow: r.Intn(2) == 0, Alg: r.Intn(23), Below: r.Intn(2) * r.Intn(16385), Purpose: r.Intn(5), From: from, To: min(end, from+1+r.Intn(2)*end)})
		}
		for range r.Intn(4) {
			p.Keeps = append(p.Keeps, api.Keep{Purpose: 1 + r.Intn(4), Days: r.Intn(40001)})
		}
		s, e := rule.Print(p)
		q, _, f := rule.Parse(s)
		again, _ := rule.Print(q)
		if e != api.OK || f != api.OK || !rule.Same(p, q) || s != again {
			t.Fatalf("%v: %q, %v", p, s, q)
		}
	}
}

func TestPurpose(t *testing.T) { // P17.2
	for word, want := range map[string]int{"transport": 1, "sign": 2, "backup": 3, "code": 4, "": 0, "Sign": 0, "any": 0, "sign ": 0} {
		if n := rule.Purpose(word); n != want {
			t.Errorf("%q: %d", word, n)
		}
	}
}

func TestSame(t *testing.T) { // P17.2
	a := api.Policy{Rules: []api.Rule{{Allow: true, Alg: 1, Below: 1, Purpose: 1, From: 1, To: 2}}, Keeps: []api.Keep{{Purpose: 1, Days: 2}}}
	for i, f := range []func(*api.Rule){func(r *api.Rule) { r.Allow = false }, func(r *api.Rule) { r.Alg++ }, func(r *api.Rule) { r.Below++ }, func(r *api.Rule) { r.Purpose++ }, func(r *api.Rule) { r.From++ }, func(r *api.Rule) { r.To++ }} {
		b := api.Policy{Rules: slices.Clone(a.Rules), Keeps: a.Keeps}
		f(&b.Rules[0])
		if rule.Same(a, b) {
			t.Error(i)
		}
	}
	if rule.Same(a, api.Policy{Rules: a.Rules}) || rule.Same(a, api.Policy{Rules: a.Rules, Keeps: []api.Keep{{Purpose: 1, Days: 3}}}) || rule.Same(a, api.Policy{Keeps: a.Keeps}) || !rule.Same(api.Policy{}, api.Policy{Rules: []api.Rule{}}) || !rule.Same(a, a) {
		t.Error("keeps")
	}
}

func TestMemory(t *testing.T) { // R3
	p := rules(api.Rule{To: 1})
	apart(t, "Print", func() string { s, _ := rule.Print(p); return s }, p)
	apart(t, "Parse", func() api.Policy { p, _, _ := rule.Parse("forbid any\nforbid md5\nkeep sign 1"); return p })
}

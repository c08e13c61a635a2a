// Package robust has tests only: it calls all functions that the chapters list with arguments of all kinds, valid ones and others.
package robust_test

import (
	"cipherplan/api"
	"cipherplan/clone"
	"cipherplan/finding"
	"cipherplan/keystore"
	"cipherplan/rule"
	"cipherplan/sample"
	"cipherplan/script"
	"fmt"
	"maps"
	"math"
	"math/rand"
	"reflect"
	"slices"
	"testing"
)

// pool returns valid values, by their types.
func pool() map[reflect.Type][]any {
	m := map[reflect.Type][]any{}
	add := func(l ...any) {
		for _, v := range l {
			m[reflect.TypeOf(v)] = append(m[reflect.TypeOf(v)], v)
		}
	}
	e := sample.Estate()
	p, _, _ := rule.Parse("forbid rc4 from 5\nforbid sha1 for sign from 50\nkeep sign 100")
	w, _ := script.New(e, p, nil, api.Owners{}, sample.Plan(), 1)
	store := []api.Entry{{Alias: "a", Key: sample.RSA(), KeyId: 1, Chain: e.Endpoints[0].Identities[0].Chain}}
	bytes, _ := keystore.Encode(store)
	l, _ := finding.FromEndpoint(api.Finding{Source: 1, Host: "app", Machine: 4, Day: 3, Confidence: 5, Subject: "tls"}, e.Endpoints[0])
	add(e, p, w, w.Run, w.Hosts[0], store, bytes, l, l[0], sample.Plan(), sample.Plan().Required, sample.Plan().Changes, sample.Plan().Changes[2], e.Endpoints[0], e.Endpoints[1], e.Items[0])
	add(e.Endpoints[0].Identities[0].Chain, e.Endpoints[0].Identities[0].Chain[0], api.Set{0, 1}, api.Set{}, sample.RSA(), api.Outcome{Version: 3, Suite: 10})
	add(api.Calendar{Windows: []api.Window{{Days: api.Span{To: 50}, Teams: []int{0}}, {Days: api.Span{From: 50, To: 99}, Teams: []int{0}}}, Team: []int{0, 0, 0}, Room: []int{9}})
	add(api.Act{Kind: api.ActTry}, []api.Act{{Kind: api.ActTry}, {Kind: api.ActDay, Number: 2}, {Kind: api.ActTry}, {Kind: api.ActUndo}}, api.Ledger{}, []api.Exception{}, []api.Use{sample.RSA()})
	return m
}

// maker makes arguments at random.
type maker struct {
	*rand.Rand
	pool map[reflect.Type][]any
}

// value returns a value of a type.
func (m maker) value(t reflect.Type, depth int) reflect.Value {
	if known := m.pool[t]; len(known) > 0 && m.Intn(5) > 0 {
		v := deep(reflect.ValueOf(known[m.Intn(len(known))]))
		if m.Intn(2) == 0 {
			m.spoil(v, depth)
		}
		return v
	}
	v := reflect.New(t).Elem()
	switch t.Kind() {
	case reflect.Int, reflect.Uint8:
		m.number(v)
	case reflect.String:
		v.SetString([]string{"", "a", "app", "db", "tls", "x y", "md5", "5", "\n", "[app]\nmost = 3\n", "forbid md5\n", "server app {\nmost 3;\n}\n", "high:!rsa", "1.2", "broken app db\n", "\x00\xff"}[m.Intn(16)])
	case reflect.Bool:
		v.SetBool(m.Intn(2) == 0)
	case reflect.Slice:
		if depth < 6 {
			for range m.Intn(4) {
				v = reflect.Append(v, m.value(t.Elem(), depth+1))
			}
		}
	case reflect.Struct:
		for i := range t.NumField() {
			v.Field(i).Set(m.value(t.Field(i).Type, depth+1))
		}
	}
	return v
}

// number gives a number a value.
func (m maker) number(v reflect.Value) {
	if v.Kind() == reflect.Uint8 {
		v.SetUint(uint64(m.Intn(256)))
		return
	}
	v.SetInt([]int64{0, 1, 2, 3, 5, 8, 10, 24, 25, -1, 100, 2048, api.MaxDay, api.MaxDay + 1, 1 << 31, math.MaxInt, math.MinInt, int64(m.Intn(64))}[m.Intn(18)])
}

// spoil changes something in a value.
func (m maker) spoil(v reflect.Value, depth int) {
	switch v.Kind() {
	case reflect.Slice:
		if n := v.Len(); n > 0 && m.Intn(4) > 0 {
			m.spoil(v.Index(m.Intn(n)), depth+1)
		} else if v.CanSet() {
			v.Set(v.Slice(0, m.Intn(n+1)))
		}
	case reflect.Struct:
		m.spoil(v.Field(m.Intn(v.NumField())), depth+1)
	default:
		if v.CanSet() {
			v.Set(m.value(v.Type(), depth+1))
		}
	}
}

// deep returns a copy of a value that can be changed.
func deep(v reflect.Value) reflect.Value {
	c := reflect.New(v.Type()).Elem()
	switch v.Kind() {
	case reflect.Slice:
		for i := range v.Len() {
			c = reflect.Append(c, deep(v.Index(i)))
		}
		d := reflect.New(v.Type()).Elem()
		d.Set(c)
		return d
	case reflect.Struct:
		for i := range v.NumField() {
			c.Field(i).Set(deep(v.Field(i)))
		}
	default:
		c.Set(v)
	}
	return c
}

// memory is where a slice lies.
type memory struct{ from, to uintptr }

// slicesOf returns where all slices within values lie.
func slicesOf(values ...reflect.Value) []memory {
	var l []memory
	for _, v := range values {
		switch v.Kind() {
		case reflect.Slice:
			if v.Cap() > 0 {
				l = append(l, memory{v.Pointer(), v.Pointer() + uintptr(v.Cap())*v.Type().Elem().Size()})
			}
			for i := range v.Len() {
				l = append(l, slicesOf(v.Index(i))...)
			}
		case reflect.Struct:
			for i := range v.NumField() {
				l = append(l, slicesOf(v.Field(i))...)
			}
		}
	}
	return l
}

// shared reports whether a slice of a result lies where another one, or one of an argument, does.
func shared(results, given []memory) bool {
	for i, m := range results {
		for _, n := range append(slices.Clip(given), results[:i]...) {
			if m.from < n.to && n.from < m.to {
				return true
			}
		}
	}
	return false
}

// text writes values.
func text(l []reflect.Value) string {
	s := ""
	for _, v := range l {
		s += fmt.Sprintf("%#v ", v.Interface())
	}
	return s
}

// TestAll checks that no function panics (R1), changes its arguments or hands them out (R3), or returns something else the next time (R5).
func TestAll(t *testing.T) {
	m := maker{rand.New(rand.NewSource(1)), pool()}
	all := functions()
	for _, name := range slices.Sorted(maps.Keys(all)) {
		f := reflect.ValueOf(all[name])
		for range 150 {
			var args []reflect.Value
			for i := range f.Type().NumIn() {
				args = append(args, m.value(f.Type().In(i), 0))
			}
			before := text(args)
			given := slicesOf(args...)
			results, ok := call(f, args)
			if !ok {
				t.Fatalf("%s panics: %s", name, before)
			}
			if text(args) != before {
				t.Fatalf("%s changes its arguments: %s", name, before)
			}
			if shared(slicesOf(results...), given) {
				t.Fatalf("%s: results share memory: %s", name, before)
			}
			again, _ := call(f, args)
			if text(again) != text(results) {
				t.Fatalf("%s: another result: %s: %s, %s", name, before, text(results), text(again))
			}
			checkError(t, name, results, before)
			checkFalse(t, name, results, before)
		}
	}
}

// call calls a function; false if it panics.
func call(f reflect.Value, args []reflect.Value) (results []reflect.Value, ok bool) {
	defer func() {
		if recover() != nil {
			ok = false
		}
	}()
	return f.Call(args), true
}

// checkFalse checks that with false every other result is its zero value (R2), but for those that the chapters name.
func checkFalse(t *testing.T, name string, results []reflect.Value, args string) {
	n := len(results)
	if _, is := results[n-1].Interface().(api.Errno); is {
		n--
	}
	if n < 2 || results[n-1].Kind() != reflect.Bool || results[n-1].Bool() {
		return
	}
	switch name {
	case "negotiate.Identity", "lifetime.Wanted", "host.Try":
		return // they say something with false, too
	}
	for _, r := range results[:n-1] {
		if isEmpty := r.Kind() == reflect.Slice && r.Len() == 0; !r.IsZero() && !isEmpty {
			t.Fatalf("%s: a result with false: %s: %s", name, args, text(results))
		}
	}
}

// checkError checks that with an error every other result is its zero value (R2), but for those that the chapters name.
func checkError(t *testing.T, name string, results []reflect.Value, args string) {
	last := results[len(results)-1]
	if e, is := last.Interface().(api.Errno); !is || e == api.OK {
		return
	}
	switch name {
	case "job.All", "host.Try", "host.Back", "host.Drift", "runner.Report", "runner.Undo", "runner.Advance", "ledger.Add", "journal.Append", "script.Do":
		return // they return what they were given
	}
	for i, r := range results[:len(results)-1] {
		isLine := r.Kind() == reflect.Int && i == 1 && len(results) == 3
		if isEmpty := r.Kind() == reflect.Slice && r.Len() == 0; !r.IsZero() && !isEmpty && !isLine {
			t.Fatalf("%s: a result with an error: %s: %s", name, args, text(results))
		}
	}
}

func TestPool(t *testing.T) { // the valid values are valid
	if w := pool()[reflect.TypeFor[api.World]()]; len(w) != 1 || script.Same(w[0].(api.World), api.World{}) || !script.Same(clone.World(w[0].(api.World)), w[0].(api.World)) {
		t.Error("no world")
	}
}

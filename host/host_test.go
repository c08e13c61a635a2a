package host_test

import (
	"cipherplan/api"
	"cipherplan/endpoint"
	"cipherplan/finding"
	"cipherplan/host"
	"cipherplan/sample"
	"reflect"
	"slices"
	"testing"
)

// web returns an endpoint with some suites.
func web(suites ...int) api.Endpoint { return sample.Endpoint("web", 1, suites...) }

// begun returns the host of an endpoint.
func begun(t *testing.T, e api.Endpoint) api.Host {
	t.Helper()
	h, f := host.New(e)
	if f != api.OK {
		t.Fatal(f)
	}
	return h
}

func TestNew(t *testing.T) { // P36.1
	if h := begun(t, web(10)); !endpoint.Same(h.Endpoint, web(10)) || len(h.Before) > 0 {
		t.Errorf("%v", h)
	}
	if h, f := host.New(api.Endpoint{}); f != api.ErrEndpoint || !reflect.DeepEqual(h, api.Host{}) {
		t.Errorf("%v, %v", h, f)
	}
}

func TestTry(t *testing.T) { // P36.1
	before := begun(t, web(10))
	for fault, want := range map[int]struct{ does, says bool }{api.FaultNone: {true, true}, api.FaultFail: {false, false}, api.FaultSilent: {true, false}, api.FaultLost: {false, true}} {
		h, says, f := host.Try(before, web(8), fault)
		after := api.Host{Endpoint: web(8), Before: []api.Endpoint{web(10)}}
		if !want.does {
			after = before
		}
		if f != api.OK || says != want.says || !host.Same(h, after) {
			t.Errorf("%d: %v, %v, %v", fault, h, says, f)
		}
		back, g := host.Back(h)
		if want.does && (g != api.OK || !host.Same(back, before)) || !want.does && (g != api.ErrNone || !host.Same(back, h)) {
			t.Errorf("%d: %v, %v", fault, back, g)
		}
	}
	bad := web(99)
	other := sample.Endpoint("app", 1, 8)
	for i, x := range []struct {
		to    api.Endpoint
		fault int
		want  api.Errno
	}{{bad, -1, api.ErrEndpoint}, {other, -1, api.ErrName}, {web(8), -1, api.ErrRange}, {web(8), 4, api.ErrRange}} {
		if h, says, f := host.Try(before, x.to, x.fault); f != x.want || says || !host.Same(h, before) {
			t.Errorf("%d: %v, %v, %v", i, h, says, f)
		}
	}
}

func TestBefore(t *testing.T) { // P36.1: only the last MaxChanges stay
	h := begun(t, web(1))
	for i := range 30 {
		h, _, _ = host.Try(h, web(2+i%10), api.FaultSilent)
		if want := min(i+1, api.MaxChanges); len(h.Before) != want {
			t.Fatalf("%d: %d", i, len(h.Before))
		}
	}
	if !endpoint.Same(h.Before[23], web(2+28%10)) || !endpoint.Same(h.Before[0], web(2+5%10)) || !endpoint.Same(h.Endpoint, web(2+29%10)) {
		t.Errorf("%v", h)
	}
	for i := 28; i >= 5; i-- {
		var f api.Errno
		if h, f = host.Back(h); f != api.OK || !endpoint.Same(h.Endpoint, web(2+i%10)) {
			t.Fatalf("%d: %v, %v", i, h, f)
		}
	}
	if again, f := host.Back(h); f != api.ErrNone || !host.Same(again, h) {
		t.Errorf("%v, %v", again, f)
	}
}

func TestDrift(t *testing.T) { // P36.2
	h, _, _ := host.Try(begun(t, web(10)), web(8, 10), api.FaultNone)
	got, f := host.Drift(h, api.Change{Endpoint: 99, Kind: api.DropSuite, Number: 8})
	if want := (api.Host{Endpoint: web(10), Before: h.Before}); f != api.OK || !host.Same(got, want) {
		t.Errorf("%v, %v", got, f)
	}
	for _, x := range []struct {
		c    api.Change
		want api.Errno
	}{{api.Change{}, api.ErrChange}, {api.Change{Kind: api.DropSuite, Number: 1}, api.ErrDone}, {api.Change{Kind: api.SetMost, Number: 9}, api.ErrValue}} {
		if got, f := host.Drift(h, x.c); f != x.want || !host.Same(got, h) {
			t.Errorf("%v: %v, %v", x.c, got, f)
		}
	}
}

func TestProbe(t *testing.T) { // P36.2
	at := api.Finding{Source: api.SourceHandshake, Host: "web", Day: 5, Confidence: 9, Subject: "tls"}
	h := begun(t, web(10, 8))
	want, _ := finding.FromEndpoint(at, h.Endpoint)
	if l, f := host.Probe(h, at); f != api.OK || !slices.Equal(l, want) || len(l) == 0 {
		t.Errorf("%v, %v", l, f)
	}
	if l, f := host.Probe(h, api.Finding{}); f != api.ErrFinding || len(l) > 0 {
		t.Errorf("%v, %v", l, f)
	}
}

func TestSame(t *testing.T) { // P36.2
	h, _, _ := host.Try(begun(t, web(10)), web(8), api.FaultNone)
	for name, other := range map[string]api.Host{"endpoint": {Endpoint: web(9), Before: h.Before}, "before": {Endpoint: h.Endpoint, Before: []api.Endpoint{web(9)}}, "none before": {Endpoint: h.Endpoint}} {
		if host.Same(h, other) || !host.Same(other, other) {
			t.Error(name)
		}
	}
	if !host.Same(api.Host{}, api.Host{Before: []api.Endpoint{}}) {
		t.Error("empty")
	}
}

func TestMemory(t *testing.T) { // R3
	e, to := web(10), web(8)
	h, _, _ := host.Try(begun(t, e), to, api.FaultNone)
	c := api.Change{Kind: api.AddIdentity, Identity: sample.Identity("web", sample.RSA(), 9, 9)}
	apart(t, "New", func() api.Host { h, _ := host.New(e); return h }, e)
	for fault := range 4 {
		apart(t, "Try", func() api.Host { x, _, _ := host.Try(h, to, fault); return x }, h, to)
	}
	apart(t, "Back", func() api.Host { x, _ := host.Back(h); return x }, h)
	apart(t, "Drift", func() api.Host { x, _ := host.Drift(h, c); return x }, h, c)
}

package graph_test

import (
	"cipherplan/api"
	"cipherplan/graph"
	"math"
	"math/rand"
	"slices"
	"testing"
)

func r(first, then int) api.Required { return api.Required{First: first, Then: then} }

func TestCheck(t *testing.T) {
	for name, x := range map[string]struct {
		n    int
		l    []api.Required
		want api.Errno
	}{
		"none":         {0, nil, api.OK},
		"24":           {24, []api.Required{r(0, 23), r(23, 1)}, api.OK},
		"25":           {25, nil, api.ErrRange},
		"-1":           {-1, nil, api.ErrRange},
		"far":          {math.MaxInt, []api.Required{r(0, 0)}, api.ErrRange},
		"itself":       {3, []api.Required{r(1, 1)}, api.ErrNeed},
		"no first":     {3, []api.Required{r(3, 1)}, api.ErrNeed},
		"no then":      {3, []api.Required{r(0, 3)}, api.ErrNeed},
		"negative":     {3, []api.Required{r(-1, 1)}, api.ErrNeed},
		"negative too": {3, []api.Required{r(1, math.MinInt)}, api.ErrNeed},
		"need first":   {3, []api.Required{r(1, 2), r(1, 2), r(0, 0)}, api.ErrNeed},
		"twice":        {3, []api.Required{r(1, 2), r(1, 2)}, api.ErrOrder},
		"descending":   {3, []api.Required{r(1, 2), r(1, 0)}, api.ErrOrder},
		"firsts":       {3, []api.Required{r(1, 2), r(0, 1)}, api.ErrOrder},
		"order first":  {3, []api.Required{r(1, 2), r(2, 1), r(0, 1)}, api.ErrOrder},
		"back":         {3, []api.Required{r(1, 2), r(2, 1)}, api.ErrLoop},
		"a circle":     {4, []api.Required{r(0, 2), r(1, 0), r(2, 3), r(3, 1)}, api.ErrLoop},
		"no circle":    {4, []api.Required{r(0, 1), r(0, 2), r(1, 3), r(2, 3)}, api.OK},
	} {
		if e := graph.Check(x.n, x.l); e != x.want {
			t.Errorf("%s: %v", name, e)
		}
	}
}

func TestBehind(t *testing.T) {
	random := rand.New(rand.NewSource(1))
	for range 500 {
		n := 1 + random.Intn(7)
		way := make([][]bool, n)
		for i := range way {
			way[i] = make([]bool, n)
		}
		var l []api.Required
		for i := range n {
			for k := range n {
				if i != k && random.Intn(4) == 0 {
					l = append(l, r(i, k))
					way[i][k] = true
				}
			}
		}
		for range n {
			for i := range n {
				for k := range n {
					for m := range n {
						way[i][m] = way[i][m] || way[i][k] && way[k][m]
					}
				}
			}
		}
		var want []api.Required
		for i := range n {
			for k := range n {
				if way[i][k] {
					want = append(want, r(i, k))
				}
			}
		}
		if got := graph.Pairs(graph.Behind(n, l)); !slices.Equal(got, want) {
			t.Fatalf("%v: %v, not %v", l, got, want)
		}
	}
}

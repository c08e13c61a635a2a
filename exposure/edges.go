package exposure

import (
	"cipherplan/api"
	"cipherplan/downgrade"
	"cipherplan/negotiate"
)

// situation is what risks are looked for in.
type situation struct {
	estate     api.Estate
	policy     api.Policy
	exceptions []api.Exception
	owners     api.Owners
	weak       int
}

// ofEdge returns the risks of an edge on a day.
func (s situation) ofEdge(edge, day int) []api.Risk {
	client := s.estate.Endpoints[s.estate.Edges[edge].Client]
	server := s.estate.Endpoints[s.estate.Edges[edge].Server]
	var risks []api.Risk
	chosen, e := negotiate.Choose(client, server, day)
	if e != api.OK {
		risks = collect(risks, api.Risk{Kind: api.RiskBroken, Index: edge})
	} else if forbidden, _ := downgrade.Forbidden(s.policy, s.exceptions, s.owners, server, chosen, day); forbidden {
		risks = collect(risks, api.Risk{Kind: api.RiskOpen, Index: edge, Suite: chosen.Suite})
	}
	down, _ := downgrade.Down(client, server, s.policy, s.exceptions, s.owners, day, s.weak)
	for _, w := range down {
		if w.Outcome != chosen {
			risks = collect(risks, api.Risk{Kind: api.RiskDown, Index: edge, Suite: w.Outcome.Suite})
		}
	}
	return risks
}

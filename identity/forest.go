package identity

import (
	"cipherplan/api"
	"slices"
)

// forest joins findings: each one has a parent that is about the same entity, and comes not behind it.
type forest struct {
	findings []api.Finding
	parents  [api.MaxFindings]int
}

// newForest returns a forest in which each finding is about an entity of its own.
func newForest(l []api.Finding) *forest {
	f := &forest{findings: l}
	for i := range l {
		f.parents[i] = i
	}
	return f
}

// root returns the first finding about the same entity.
func (f *forest) root(i int) int {
	for f.parents[i] != i {
		f.parents[i] = f.parents[f.parents[i]]
		i = f.parents[i]
	}
	return i
}

// join makes two findings be about the same entity.
func (f *forest) join(i, j int) {
	i, j = f.root(i), f.root(j)
	f.parents[max(i, j)] = min(i, j)
}

// joinMachines joins the findings of each machine.
func (f *forest) joinMachines() {
	first := map[int]int{}
	for i, x := range f.findings {
		if x.Machine == 0 {
			continue
		}
		if j, met := first[x.Machine]; met {
			f.join(i, j)
		} else {
			first[x.Machine] = i
		}
	}
}

// joinNearest joins each finding without a machine with the nearest one with a machine, or with the one before of its host that has none, either.
func (f *forest) joinNearest(gap int) {
	last := -1
	for i, x := range f.findings { // of one host, those without a machine come first, by their days
		if x.Machine != 0 {
			continue
		}
		if j := f.nearest(x, gap); j >= 0 {
			f.join(i, j)
			continue
		}
		if last >= 0 && f.findings[last].Host == x.Host && x.Day-f.findings[last].Day <= gap {
			f.join(i, last)
		}
		last = i
	}
}

// nearest returns the index of the nearest finding with a machine, -1 without one.
func (f *forest) nearest(x api.Finding, gap int) int {
	best := -1
	for j, y := range f.findings {
		if y.Machine == 0 || y.Host != x.Host || distance(x, y) > gap {
			continue
		}
		if best < 0 || f.isNearer(x, y, f.findings[best]) {
			best = j
		}
	}
	return best
}

// isNearer reports whether a finding is nearer to one than another one is.
func (f *forest) isNearer(to, x, y api.Finding) bool {
	if d, e := distance(to, x), distance(to, y); d != e {
		return d < e
	}
	if x.Day != y.Day {
		return x.Day < y.Day
	}
	return x.Machine < y.Machine
}

// distance returns by how many days two findings differ.
func distance(x, y api.Finding) int {
	return max(x.Day-y.Day, y.Day-x.Day)
}

// entities returns the entities, by their numbers.
func (f *forest) entities() []api.Entity {
	var l []api.Entity
	at := map[int]int{}
	for i, x := range f.findings {
		root := f.root(i)
		if root == i {
			at[i] = len(l)
			l = append(l, api.Entity{Number: i})
		}
		e := &l[at[root]]
		e.Findings = append(e.Findings, i)
		if !slices.Contains(e.Hosts, x.Host) { // hosts ascend in normal lists
			e.Hosts = append(e.Hosts, x.Host)
		}
		if x.Machine != 0 && !slices.Contains(e.Machines, x.Machine) {
			e.Machines = append(e.Machines, x.Machine)
		}
	}
	return l
}

package finding

import "cipherplan/api"

// collector collects findings that were made at the same place.
type collector struct {
	at    api.Finding
	found []api.Finding
}

// begin returns a collector that has found nothing.
func begin(at api.Finding) (collector, api.Errno) {
	c := collector{at: at}
	c.at.Use, c.at.Text = api.Use{}, ""
	c.number(api.FindMost, 1)
	e := Check(c.found[0])
	c.found = nil
	return c, e
}

// add adds a finding.
func (c *collector) add(kind int, u api.Use, number int) {
	f := c.at
	f.Kind, f.Use, f.Number = kind, u, number
	c.found = append(c.found, f)
}

// number adds a finding of a number.
func (c *collector) number(kind, n int) {
	c.add(kind, api.Use{}, n)
}

// use adds a finding of a use.
func (c *collector) use(u api.Use) {
	c.add(api.FindUse, u, 0)
}

// key adds a finding of a key.
func (c *collector) key(u api.Use, id int) {
	c.add(api.FindKey, u, id)
}

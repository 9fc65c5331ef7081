package sample

import (
	"slices"

	"nameplan/api"
)

// Rolled returns the history of the document's example: the zone x has the key 3 until 50, and then the key 4, but its anchors stay.
func Rolled() api.History {
	h := api.History{Hosts: Hosts()[:2], Anchor: Signed(".", api.TypeAnchor, 10, Nums(1, 1)).Set, Hints: []int{1}, End: 100}
	root := With(Bare(".", 1, "a.ns"), Signed("a.ns", api.TypeAddr, 10, Nums(1)), Signed("x", api.TypeServer, 10, Text("a.ns")), Signed("x", api.TypeAnchor, 10, Nums(3, 1)))
	x := Bare("x", 1, "a.ns")
	h.Copies = []api.Copy{{Until: 100, Zone: Sealed(root, 0, 900, 1)}, {Until: 50, Zone: Sealed(x, 0, 900, 3)}, {From: 50, Until: 100, Zone: Sealed(Numbered(x, 2), 0, 900, 4)}}
	return h
}

// Shaken returns a history that is nearly the tree: some copies end, or are served by others.
func (d *Dice) Shaken() api.History {
	h := Tree()
	h.Drift = d.Roll(3)
	for range 3 {
		i := d.Roll(len(h.Copies))
		c := h.Copies[i]
		at := 10 + d.Roll(60)
		if c.From != 0 || c.Until != 100 {
			continue
		}
		h.Copies[i].Until = at
		key := []int{1, 2, 3, 4, 9}[d.Roll(5)]
		z := With(c.Zone, Signed(c.Zone.Apex, api.TypeStart, 10, Nums(2, 5)))
		for _, s := range slices.Clone(z.Sets) {
			if s.Set.Type == api.TypeText && d.Roll(2) == 0 {
				z = With(z, Signed(s.Set.Name, api.TypeText, 10, Text("new")))
			}
			if s.Set.Type == api.TypeAnchor && d.Roll(3) == 0 {
				z = With(z, Signed(s.Set.Name, api.TypeAnchor, 10, Nums(key, 1)))
			}
		}
		until := 900
		if d.Roll(3) == 0 {
			until = 80
		}
		h.Copies = append(h.Copies, api.Copy{Host: c.Host, From: at + d.Roll(2)*d.Roll(9), Until: 100, Zone: Sealed(z, d.Roll(2)*d.Roll(30), until, key)})
	}
	return h
}

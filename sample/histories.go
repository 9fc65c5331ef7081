package sample

import (
	"nameplan/api"
	"nameplan/denial"
	"nameplan/sign"
)

// Sealed returns a zone with a key set, its chain, and signatures.
func Sealed(z api.Zone, from, until int, keys ...int) api.Zone {
	s := Signed(z.Apex, api.TypeKey, 10)
	var l []api.Key
	for _, k := range keys {
		s.Set.Data = append(s.Set.Data, Nums(k, 1))
		l = append(l, api.Key{N: k, Alg: 1})
	}
	z, _ = denial.Chain(With(z, s))
	z, _ = sign.All(z, l, from, until)
	return z
}

// History makes a valid history of the root, x and y, with versions that hosts serve for some time.
func (d *Dice) History() api.History {
	h := api.History{Hosts: Hosts(), Anchor: Signed(".", api.TypeAnchor, 5, Nums(1, 1)).Set, Hints: []int{1, 2}, Drift: d.Roll(4), End: 60}
	for k, apex := range []string{".", "x", "y"} {
		var versions []api.Zone
		for i := range 2 {
			z := Numbered(d.worldZone(apex), i)
			if d.Roll(3) > 0 {
				z = Sealed(z, d.Roll(10), 30+d.Roll(60), 1+k, 5)
			}
			versions = append(versions, z)
		}
		for host := range 3 {
			at := d.Roll(15)
			for at < 50 && d.Roll(5) > 0 {
				until := min(60, at+1+d.Roll(30))
				h.Copies = append(h.Copies, api.Copy{Host: host, From: at, Until: until, Zone: versions[d.Roll(2)]})
				at = until + d.Roll(2)*d.Roll(5)
			}
		}
	}
	return h
}

package sample

import "nameplan/api"

// Hosts returns hosts with the addresses from 1 on.
func Hosts() []api.Host {
	var out []api.Host
	for i, n := range []string{"a.ns", "b.ns", "h.x", "h.y", "g.y.x"} {
		out = append(out, api.Host{Name: n, Addr: i + 1, Owner: (i + 1) / 2})
	}
	return out
}

// World makes a valid world of the root, x, y, ns and y.x, in which not everything fits.
func (d *Dice) World() api.World {
	w := api.World{Hosts: Hosts(), Anchor: Signed(".", api.TypeAnchor, 5, Nums(1, 1)).Set, Hints: []int{1, 2}}
	for _, apex := range []string{".", "x", "y", "ns", "y.x"} {
		if d.Roll(6) == 0 {
			continue
		}
		z := d.worldZone(apex)
		for host := range w.Hosts {
			if d.Roll(3) == 0 {
				w.Zones = append(w.Zones, api.Placed{Host: host, Zone: Numbered(z, 1+d.Roll(2))})
			}
		}
	}
	return w
}

// worldZone makes a zone of a world, with cuts and aliases that may lead anywhere.
func (d *Dice) worldZone(apex string) api.Zone {
	hosts := Hosts()
	z := Bare(apex, 1, hosts[d.Roll(5)].Name)
	cuts := map[string][]string{".": {"x", "y", "ns"}, "x": {"y.x"}}
	for _, cut := range cuts[apex] {
		if d.Roll(5) > 0 {
			h := hosts[d.Roll(5)]
			z = With(z, Signed(cut, api.TypeServer, 10, Text(h.Name)))
			if d.Roll(2) == 0 {
				z = With(z, Signed(h.Name, api.TypeAddr, 10, Nums(h.Addr)))
			}
		}
	}
	for _, h := range hosts {
		if d.Roll(2) == 0 {
			z = With(z, Signed(h.Name, api.TypeAddr, 10, Nums(h.Addr+d.Roll(8)/7)))
		}
	}
	names := []string{"l.x", "m.x", "l.y", "m.ns", "l.y.x", "t"}
	for _, n := range names {
		switch d.Roll(3) {
		case 0:
			z = With(z, Signed(n, api.TypeAlias, 10, Text(names[d.Roll(6)])))
		case 1:
			z = With(z, Signed(n, api.TypeText, 10, Text("t")), Signed(Below("*", apex), api.TypeText, 5, Text("w")))
		}
	}
	return z
}

package prove_test

import (
	"slices"

	"nameplan/api"
	"nameplan/sample"
	"nameplan/zone"
)

// edited returns a history after a change of one copy of an apex from a time on, with the same keys.
func edited(h api.History, host int, apex string, from int, f func(z api.Zone) api.Zone) api.History {
	h.Copies = slices.Clone(h.Copies)
	for i, c := range slices.Clone(h.Copies) {
		if c.Zone.Apex != apex || c.Host != host || c.Until != h.End {
			continue
		}
		key := 0
		for _, s := range c.Zone.Sets {
			if s.Set.Type == api.TypeKey {
				key = s.Set.Data[0].N
			}
		}
		n, _ := zone.Serial(c.Zone)
		z := sample.Sealed(sample.Numbered(f(c.Zone), n+1), 0, 20000000, key)
		if from == 0 {
			h.Copies[i].Zone = z
			continue
		}
		h.Copies[i].Until = from
		h.Copies = append(h.Copies, api.Copy{Host: host, From: from, Until: h.End, Zone: z})
	}
	return h
}

// cutOff returns a history in which a copy of an apex lacks a set, but nothing else has changed.
func cutOff(h api.History, host int, apex string, x api.Question) api.History {
	h.Copies = slices.Clone(h.Copies)
	for i, c := range h.Copies {
		if c.Zone.Apex == apex && c.Host == host {
			h.Copies[i].Zone, _ = zone.Drop(c.Zone, x)
		}
	}
	return h
}

// twice returns the plain history with a second host of the root, and of x.
func twice() api.History {
	h := sample.Plain()
	h.End, h.Drift = 100, 0
	for i := range h.Copies {
		h.Copies[i].Until = 100
	}
	h.Copies = append(h.Copies, api.Copy{Host: 2, Until: 100, Zone: h.Copies[0].Zone}, api.Copy{Host: 3, Until: 100, Zone: h.Copies[1].Zone})
	h.Hints = []int{1, 3}
	return h
}

// chained returns a history in which zones have their servers in the next zone.
func chained(zones int, round bool) api.History {
	h := api.History{Hosts: []api.Host{{Name: "r", Addr: 1}}, Anchor: sample.Signed(".", 6, 10, sample.Nums(1, 1)).Set, Hints: []int{1}, End: 60}
	root := sample.With(sample.Bare(".", 1, "r"), sample.Signed("r", 1, 10, sample.Nums(1)))
	apex := func(i int) string { return []string{"u", "v", "k", "j", "i", "g", "f", "e", "d", "c"}[i] }
	for i := range zones {
		server := "h." + apex((i+1)%zones)
		if i == zones-1 && !round {
			server = "r"
		}
		root = sample.With(root, sample.Signed(apex(i), 2, 10, sample.Text(server)), sample.Signed(apex(i), 6, 10, sample.Nums(i+2, 1)), sample.Signed("h."+apex(i), 1, 10, sample.Nums(1)))
		z := sample.With(sample.Bare(apex(i), 1, server), sample.Signed("h."+apex(i), 1, 10, sample.Nums(1)))
		h.Copies = append(h.Copies, api.Copy{Until: 60, Zone: sample.Sealed(z, 0, 900, i+2)})
	}
	h.Copies = append(h.Copies, api.Copy{Until: 60, Zone: sample.Sealed(root, 0, 900, 1)})
	return h
}

// crafted returns histories in which one thing, or several, do not fit.
func crafted(d *sample.Dice) []api.History {
	text, nums, signed := sample.Text, sample.Nums, sample.Signed
	tree, plain := sample.Tree(), twice()
	out := []api.History{tree, plain, chained(8, false), chained(9, false), chained(2, true), chained(4, true), sample.Rolled()}
	for _, host := range []int{0, 2} {
		out = append(out, cutOff(plain, host, ".", q("x", 6)), cutOff(plain, host, ".", q("s", 1)), cutOff(plain, host, ".", q("y", 6)), edited(plain, host, ".", 40, drop(q("s", 1))), edited(plain, host, ".", 40, drop(q("x", 6))))
	}
	out = append(out, cutOff(plain, 1, "x", q("x", 7)), cutOff(plain, 3, "x", q("x", 7)), cutOff(plain, 3, "x", q("w.x", 1)), cutOff(plain, 1, "y", q("y", 7)))
	// names that come, go, and turn into aliases and zones
	out = append(out, edited(edited(plain, 1, "x", 40, put(signed("n.x", 1, 10, nums(1)))), 3, "x", 40, put(signed("n.x", 1, 10, nums(1)))))
	out = append(out, edited(plain, 3, "x", 40, put(signed("n.x", 1, 10, nums(1)))))
	turn := func(z api.Zone) api.Zone { return put(signed("s", 1, 10, nums(2)))(drop(q("s", 3))(z)) }
	alias := func(z api.Zone) api.Zone { return put(signed("s", 3, 10, text("u")))(drop(q("s", 1))(z)) }
	out = append(out, edited(edited(edited(edited(plain, 0, ".", 0, alias), 2, ".", 0, alias), 0, ".", 40, turn), 2, ".", 40, turn))
	early := func(z api.Zone) api.Zone {
		return put(signed("x", 3, 10, text("y")))(drop(q("x", 8), q("x", 6), q("x", 2))(z))
	}
	late := func(z api.Zone) api.Zone {
		return put(signed("x", 2, 10, text("s")), signed("x", 6, 10, nums(2, 1)))(drop(q("x", 3))(z))
	}
	out = append(out, edited(edited(edited(edited(plain, 0, ".", 0, early), 2, ".", 0, early), 0, ".", 40, late), 2, ".", 40, late))
	// glue that goes with its server, and a delegation that ends
	moved := put(signed("x", 2, 10, text("h.y")))
	out = append(out, edited(edited(tree, 0, ".", 30, moved), 1, ".", 30, moved), edited(tree, 0, ".", 30, moved), cutOff(tree, 1, ".", q("h.x", 1)), cutOff(tree, 2, "x", q("g.y.x", 1)))
	gone := drop(q("x", 8), q("x", 6), q("x", 2))
	used := put(signed("y", 2, 10, text("h.x"), text("s")))
	back := put(signed("y", 2, 10, text("s")))
	ended := edited(edited(edited(plain, 0, ".", 0, used), 0, ".", 20, back), 0, ".", 40, gone)
	ended.Copies = slices.DeleteFunc(ended.Copies, func(c api.Copy) bool { return c.Host == 2 })
	ended.Hints = []int{1}
	out = append(out, ended)
	// sets of a zone that live longer than its servers, after it has ended
	lasting := ended
	lasting.Copies = slices.DeleteFunc(slices.Clone(ended.Copies), func(c api.Copy) bool { return c.Host == 3 })
	lasting = edited(lasting, 1, "x", 0, put(signed("w.x", 1, 50, nums(7))))
	for i, c := range lasting.Copies {
		if c.Zone.Apex == "x" {
			lasting.Copies[i].Until = 40
		}
	}
	out = append(out, lasting)
	split := put(signed("c.x", 2, 10, text("u")), signed("c.x", 6, 10, nums(9, 1)))
	out = append(out, edited(edited(plain, 1, "x", 30, split), 3, "x", 30, split))
	out = append(out, apart()...)
	texted := put(signed("w.x", 5, 10, text("t")))
	out = append(out, edited(edited(plain, 1, "x", 40, texted), 3, "x", 40, texted))
	unanchored := drop(q("y", 6))
	anchored := put(signed("y", 6, 10, nums(3, 1)))
	out = append(out, edited(edited(edited(edited(plain, 0, ".", 0, unanchored), 2, ".", 0, unanchored), 0, ".", 40, anchored), 2, ".", 40, anchored))
	for i := range 12 {
		h := d.Shaken()
		if i%3 == 0 {
			h = d.History()
		}
		out = append(out, h)
	}
	return out
}

// apart returns histories in which a zone c is served, and its host is named, but it is not delegated; and some in which servers are named in their zones, or in others.
func apart() []api.History {
	text, nums, signed := sample.Text, sample.Nums, sample.Signed
	var out []api.History
	for i := range 5 {
		h := twice()
		h.Hints = []int{1}
		h.Copies = h.Copies[:3]
		root := sample.With(h.Copies[0].Zone, signed("y", 2, 10, text("h.c")), signed("h.c", 1, 10, nums(2)))
		c := sample.With(sample.Bare("c", 1, "h.c"), signed("h.c", 1, 10, nums(2)))
		host := 3
		switch i {
		case 1:
			h.Hints = []int{1, 4}
		case 2:
			h.Copies = append(h.Copies, api.Copy{Host: 3, Until: 100})
		case 3:
			root = sample.With(root, signed("r", 1, 10, nums(1), nums(4)))
		case 4:
			host = 1
			h.Copies = append(h.Copies, api.Copy{Host: 1, Until: 100})
		}
		h.Copies[0].Zone = sample.Sealed(sample.Numbered(root, 2), 0, 20000000, 1)
		for k, x := range h.Copies {
			if x.Zone.Apex == "" {
				h.Copies[k].Zone = h.Copies[0].Zone
			}
		}
		h.Copies[2].Zone = sample.Sealed(sample.With(h.Copies[2].Zone, signed("y", 2, 10, text("h.c"))), 0, 20000000, 3)
		c = sample.With(c, signed("c", 2, 10, text(h.Hosts[host].Name)))
		h.Copies = append(h.Copies, api.Copy{Host: host, Until: 100, Zone: sample.Sealed(c, 0, 20000000, 7)})
		out = append(out, h)
	}
	// x is served by a host that is named in y alone
	other := twice()
	other.Copies = other.Copies[:3]
	other.Hints = []int{1}
	other.Copies[0].Zone = sample.Sealed(sample.With(other.Copies[0].Zone, signed("x", 2, 10, text("h.y"))), 0, 20000000, 1)
	other.Copies[1].Zone = sample.Sealed(sample.With(other.Copies[1].Zone, signed("x", 2, 10, text("h.y"))), 0, 20000000, 2)
	other.Copies[2].Zone = sample.Sealed(sample.With(other.Copies[2].Zone, signed("h.y", 1, 10, nums(2))), 0, 20000000, 3)
	// x is served by a host with its own name, with and without glue
	own := twice()
	own.Copies = own.Copies[:3]
	own.Hints = []int{1}
	own.Copies[0].Zone = sample.Sealed(sample.With(own.Copies[0].Zone, signed("x", 2, 10, text("x"))), 0, 20000000, 1)
	own.Copies[1].Zone = sample.Sealed(sample.With(own.Copies[1].Zone, signed("x", 2, 10, text("x")), signed("x", 1, 10, nums(2))), 0, 20000000, 2)
	glued := own
	glued.Copies = slices.Clone(own.Copies)
	glued.Copies[0].Zone = sample.Sealed(sample.With(own.Copies[0].Zone, signed("x", 1, 10, nums(2))), 0, 20000000, 1)
	return append(out, other, own, glued)
}

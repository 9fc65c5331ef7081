package sample

import "nameplan/api"

// Tree returns a history from 0 to 100 in which signed zones fit: the root on the hosts 0 and 1, ns there, too, x on the hosts 2 and 3, and y.x on the host 4.
func Tree() api.History {
	root := With(Bare(".", 1, "a.ns", "b.ns"),
		Signed("ns", api.TypeServer, 10, Text("a.ns"), Text("b.ns")), Signed("ns", api.TypeAnchor, 10, Nums(4, 1)), Signed("a.ns", api.TypeAddr, 10, Nums(1)), Signed("b.ns", api.TypeAddr, 10, Nums(2)),
		Signed("x", api.TypeServer, 10, Text("h.x"), Text("h.y")), Signed("x", api.TypeAnchor, 10, Nums(2, 1)), Signed("h.x", api.TypeAddr, 10, Nums(3)), Signed("h.y", api.TypeAddr, 10, Nums(4)))
	ns := With(Bare("ns", 1, "a.ns", "b.ns"), Signed("a.ns", api.TypeAddr, 10, Nums(1)), Signed("b.ns", api.TypeAddr, 10, Nums(2)))
	x := With(Bare("x", 1, "h.x", "h.y"), Signed("h.x", api.TypeAddr, 10, Nums(3)), Signed("w.x", api.TypeAddr, 10, Nums(7)), Signed("l.x", api.TypeAlias, 10, Text("t.y.x")), Signed("*.x", api.TypeText, 10, Text("wild")),
		Signed("y.x", api.TypeServer, 10, Text("g.y.x")), Signed("y.x", api.TypeAnchor, 10, Nums(3, 1)), Signed("g.y.x", api.TypeAddr, 10, Nums(5)))
	y := With(Bare("y.x", 1, "g.y.x"), Signed("g.y.x", api.TypeAddr, 10, Nums(5)), Signed("t.y.x", api.TypeText, 10, Text("t")))
	h := api.History{Hosts: Hosts(), Anchor: Signed(".", api.TypeAnchor, 10, Nums(1, 1)).Set, Hints: []int{1, 2}, End: 100}
	for host, l := range [][]api.Zone{{Sealed(root, 0, 900, 1), Sealed(ns, 0, 900, 4)}, {Sealed(root, 0, 900, 1), Sealed(ns, 0, 900, 4)}, {Sealed(x, 0, 900, 2)}, {Sealed(x, 0, 900, 2)}, {Sealed(y, 0, 900, 3)}} {
		for _, z := range l {
			h.Copies = append(h.Copies, api.Copy{Host: host, Until: 100, Zone: z})
		}
	}
	return h
}

// Plain returns a history from 0 to 200 of the root on the host 0, and x and y on the host 1, whose hosts are all named in the root.
func Plain() api.History {
	root := With(Bare(".", 1, "r"), Signed("r", api.TypeAddr, 10, Nums(1)), Signed("s", api.TypeAddr, 10, Nums(2)), Signed("u", api.TypeAddr, 10, Nums(3)), Signed("v", api.TypeAddr, 10, Nums(4)),
		Signed("x", api.TypeServer, 10, Text("s")), Signed("x", api.TypeAnchor, 10, Nums(2, 1)), Signed("y", api.TypeServer, 10, Text("s")), Signed("y", api.TypeAnchor, 10, Nums(3, 1)))
	x := With(Bare("x", 1, "s"), Signed("w.x", api.TypeAddr, 10, Nums(7)), Signed("a.w.x", api.TypeText, 10, Text("a")))
	y := With(Bare("y", 1, "s"), Signed("w.y", api.TypeAddr, 10, Nums(8)))
	h := api.History{Anchor: Signed(".", api.TypeAnchor, 10, Nums(1, 1)).Set, Hints: []int{1}, Drift: 1, End: 200}
	for i, n := range []string{"r", "s", "u", "v"} {
		h.Hosts = append(h.Hosts, api.Host{Name: n, Addr: i + 1, Owner: i})
	}
	for i, z := range []api.Zone{Sealed(root, 0, 20000000, 1), Sealed(x, 0, 20000000, 2), Sealed(y, 0, 20000000, 3)} {
		h.Copies = append(h.Copies, api.Copy{Host: min(i, 1), Until: 200, Zone: z})
	}
	return h
}

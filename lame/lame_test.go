package lame_test

import (
	"slices"
	"testing"

	"nameplan/api"
	"nameplan/lame"
	"nameplan/sample"
	"nameplan/world"
)

var text, nums, signed = sample.Text, sample.Nums, sample.Signed

func q(n string, typ int) api.Question { return api.Question{Name: n, Type: typ} }

func example(addr int) api.World {
	root := sample.With(sample.Bare(".", 1, "a.ns"), signed("ns", 2, 9, text("a.ns")), signed("a.ns", 1, 9, nums(1)))
	ns := sample.With(sample.Bare("ns", 1, "a.ns"), signed("a.ns", 1, 9, nums(addr)))
	return api.World{Hosts: []api.Host{{Name: "a.ns", Addr: 1}}, Zones: []api.Placed{{Zone: root}, {Zone: ns}}, Anchor: signed(".", 6, 5, nums(1, 1)).Set, Hints: []int{1}}
}

func find(kind int, zone, name string) api.Finding {
	return api.Finding{Kind: kind, Zone: zone, Name: name}
}

// P18.1: the example of the document, and each kind of findings.
func TestExample(t *testing.T) {
	good := example(1)
	rootOnly := example(1)
	rootOnly.Zones = rootOnly.Zones[:1]
	orphan := example(1)
	orphan.Zones = append(orphan.Zones[1:], api.Placed{Zone: sample.Bare("x", 1, "a.ns")})
	elsewhere := example(1)
	elsewhere.Hosts = append(elsewhere.Hosts, api.Host{Name: "b", Addr: 2})
	elsewhere.Zones[1].Host = 1
	noAddr := example(1)
	noAddr.Zones[0].Zone = sample.With(noAddr.Zones[0].Zone, signed("x", 2, 1, text("b.ns"), text("c.x")))
	noAddr.Zones = append(noAddr.Zones, api.Placed{Zone: sample.Bare("x", 1, "b.ns")})
	for i, c := range []struct {
		w    api.World
		want []api.Finding
	}{
		{good, nil}, {example(2), []api.Finding{find(1, ".", "a.ns"), find(1, "ns", "a.ns"), find(2, ".", "a.ns")}},
		{rootOnly, []api.Finding{find(2, ".", "a.ns"), find(3, ".", "a.ns")}},
		{orphan, []api.Finding{find(4, "ns", "ns"), find(4, "x", "x")}},
		{elsewhere, []api.Finding{find(1, "ns", "a.ns")}},
		{noAddr, []api.Finding{find(3, "x", "b.ns"), find(3, "x", "c.x"), find(4, "x", "x")}},
	} {
		if l, e := lame.Findings(c.w); e != api.OK || !slices.Equal(l, c.want) {
			t.Error(i, l, e)
		}
	}
	for zone, want := range map[string][]int{"ns": {0}, ".": {0}} {
		if l, e := lame.Servers(good, zone); e != api.OK || !slices.Equal(l, want) {
			t.Error(zone, l, e)
		}
	}
	for want, zone := range map[api.Errno]string{api.ErrArg: "X", api.ErrNone: "x"} {
		if l, e := lame.Servers(good, zone); e != want || len(l) > 0 {
			t.Error(zone, l, e)
		}
	}
	_, e := lame.Findings(api.World{})
	_, f := lame.Servers(api.World{}, ".")
	if e != api.ErrArg || f != api.ErrArg {
		t.Error(e, f)
	}
}

// P18.2 to P18.6: in arbitrary worlds.
func TestLaws(t *testing.T) {
	d := sample.New(27)
	for range 150 {
		w := d.World()
		l, e := lame.Findings(w)
		if e != api.OK {
			t.Fatal(e)
		}
		turned := w
		turned.Zones = slices.Clone(w.Zones)
		slices.Reverse(turned.Zones)
		if again, _ := lame.Findings(turned); !slices.Equal(l, again) {
			t.Error("order")
		}
		for i, f := range l {
			if i > 0 && (f.Kind < l[i-1].Kind || f == l[i-1]) {
				t.Error(l)
			}
			a, e := world.Truth(w, q(f.Name, 1))
			has := e == api.OK && (a.Kind == api.AnsData || a.Kind == api.AnsWild)
			switch f.Kind {
			case api.FindNoAd:
				if has {
					t.Error(f, a)
				}
			case api.FindLame:
				mend(t, w, f, a)
			}
		}
		for _, p := range w.Zones {
			zone := p.Zone.Apex
			servers, e := lame.Servers(w, zone)
			if e != api.OK || !slices.IsSorted(servers) {
				t.Error(servers, e)
			}
			for _, h := range servers {
				if !slices.ContainsFunc(w.Zones, func(x api.Placed) bool { return x.Host == h && x.Zone.Apex == zone }) {
					t.Error(zone, h)
				}
			}
			about := func(f api.Finding) bool { return f.Zone == zone }
			if !slices.ContainsFunc(l, about) && len(servers) == 0 {
				t.Error(zone, "has no finding, and no servers")
			}
		}
	}
}

// mend gives the zone to the hosts with the addresses of a lame server.
func mend(t *testing.T, w api.World, f api.Finding, a api.Answer) {
	m := w
	m.Zones = slices.Clone(w.Zones)
	var copied api.Zone
	for _, p := range w.Zones {
		if p.Zone.Apex == f.Zone && (copied.Apex == "" || p.Zone.Sets[1].Set.Data[0].N >= 0) {
			copied = p.Zone
		}
	}
	copied = sample.Numbered(copied, 0)
	complete := true
	for _, s := range a.Sets {
		for _, x := range s.Set.Data {
			host := slices.IndexFunc(w.Hosts, func(h api.Host) bool { return h.Addr == x.N })
			if s.Set.Type != 1 || host < 0 {
				complete = complete && s.Set.Type != 1
				continue
			}
			if !slices.ContainsFunc(m.Zones, func(p api.Placed) bool { return p.Host == host && p.Zone.Apex == f.Zone }) {
				m.Zones = append(m.Zones, api.Placed{Host: host, Zone: copied})
			}
		}
	}
	if l, e := lame.Findings(m); e != api.OK || complete && slices.Contains(l, f) {
		t.Error(f, "is not mended", e)
	}
}

// P18.1: which copy counts, delegations of nested zones, wildcards, and errors of truth.
func TestMore(t *testing.T) {
	hosts := []api.Host{{Name: "a", Addr: 1}, {Name: "b", Addr: 2}, {Name: "c", Addr: 3}}
	anchor := signed(".", 6, 5, nums(1, 1)).Set
	root := sample.With(sample.Bare(".", 1, "a"), signed("a", 1, 9, nums(1)), signed("x", 2, 9, text("a")), signed("*.w", 1, 9, nums(1)))
	x := sample.With(sample.Bare("x", 1, "a"), signed("y.x", 2, 9, text("h.w")))
	y := sample.Bare("y.x", 1, "h.w")
	w := api.World{Hosts: hosts, Anchor: anchor, Hints: []int{1}, Zones: []api.Placed{{Host: 0, Zone: root}, {Host: 0, Zone: x}, {Host: 0, Zone: y}}}
	check := func(want ...api.Finding) {
		t.Helper()
		if l, e := lame.Findings(w); e != api.OK || !slices.Equal(l, want) {
			t.Error(l, e)
		}
	}
	servers := func(zone string, want ...int) {
		t.Helper()
		if l, e := lame.Servers(w, zone); e != api.OK || !slices.Equal(l, want) {
			t.Error(zone, l, e)
		}
	}
	check()
	servers("y.x", 0)
	w.Zones = append(w.Zones, api.Placed{Host: 2, Zone: y})
	servers("y.x", 0)
	w.Zones[3].Host = 1
	w.Zones[3].Zone = sample.Numbered(x, 2)
	w.Zones[3].Zone = sample.With(w.Zones[3].Zone, signed("y.x", 2, 9, text("b")))
	check(find(3, "y.x", "b"), find(4, "y.x", "y.x"))
	w.Zones[3].Zone = sample.Numbered(w.Zones[3].Zone, 1)
	check()
	w.Zones[3], w.Zones[1] = w.Zones[1], w.Zones[3]
	check()
	w.Zones[1].Zone = sample.Numbered(w.Zones[1].Zone, 0)
	check()
	// a server without an address that can be found, as its name is in a loop of aliases
	loop := sample.With(root, signed("l", 3, 9, text("m")), signed("m", 3, 9, text("l")), signed("x", 2, 9, text("l")))
	w.Zones = []api.Placed{{Host: 0, Zone: loop}, {Host: 0, Zone: sample.Bare("x", 1, "l")}}
	check(find(3, "x", "l"))
	servers("x")
	// an alias that leads to an address
	chain := sample.With(root, signed("l", 3, 9, text("a")), signed("x", 2, 9, text("l")))
	w.Zones = []api.Placed{{Host: 0, Zone: chain}, {Host: 1, Zone: sample.Bare("x", 1, "l")}}
	check(find(1, "x", "l"))
	w.Zones[1].Host = 0
	check()
	servers("x", 0)
	w.Zones = []api.Placed{{Host: 1, Zone: sample.Bare("q.x", 1, "a")}, {Host: 0, Zone: sample.With(root, signed("q.x", 2, 9, text("a")), signed("x", 5, 1, text("t")))}}
	check(find(4, "q.x", "q.x"))
}

// P18.1: of two copies with one serial number that of the lesser host counts.
func TestTwins(t *testing.T) {
	hosts := []api.Host{{Name: "a", Addr: 1}, {Name: "b", Addr: 2}, {Name: "c", Addr: 3}}
	root := sample.With(sample.Bare(".", 1, "a"), signed("a", 1, 9, nums(1)), signed("b", 1, 9, nums(2)), signed("x", 2, 9, text("b")))
	good, bad := sample.Bare("x", 1, "b"), sample.Bare("x", 1, "a")
	for i, order := range [][]api.Placed{{{Host: 1, Zone: good}, {Host: 2, Zone: bad}}, {{Host: 2, Zone: bad}, {Host: 1, Zone: good}}} {
		w := api.World{Hosts: hosts, Anchor: signed(".", 6, 5, nums(1, 1)).Set, Hints: []int{1}, Zones: append([]api.Placed{{Host: 0, Zone: root}}, order...)}
		if l, e := lame.Findings(w); e != api.OK || len(l) > 0 {
			t.Error(i, l, e)
		}
		w.Zones[1].Zone, w.Zones[2].Zone = w.Zones[2].Zone, w.Zones[1].Zone
		if l, e := lame.Findings(w); e != api.OK || !slices.Equal(l, []api.Finding{find(4, "x", "x")}) {
			t.Error(i, l, e)
		}
	}
}

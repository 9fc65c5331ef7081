package loops_test

import (
	"reflect"
	"slices"
	"testing"

	"nameplan/api"
	"nameplan/lookup"
	"nameplan/loops"
	"nameplan/name"
	"nameplan/sample"
	"nameplan/world"
)

var text, nums, signed = sample.Text, sample.Nums, sample.Signed

func q(n string, typ int) api.Question { return api.Question{Name: n, Type: typ} }

func serve(zones ...api.Zone) api.World {
	w := api.World{Hosts: sample.Hosts(), Anchor: signed(".", 6, 5, nums(1, 1)).Set, Hints: []int{1}}
	for i, z := range zones {
		w.Zones = append(w.Zones, api.Placed{Host: i % 5, Zone: z})
	}
	return w
}

func check(t *testing.T, w api.World, zone string, needs, least []string) {
	t.Helper()
	n, e := loops.Needs(w, zone)
	l, ok, f := loops.Least(w, zone)
	if e != api.OK || f != api.OK || !slices.Equal(n, needs) || !slices.Equal(l, least) || ok != (len(least) > 0) {
		t.Error(zone, n, e, l, ok, f)
	}
}

// P17.1: the example of the document, and longer loops.
func TestExample(t *testing.T) {
	root := sample.With(sample.Bare(".", 1, "a.ns"), signed("x", 2, 9, text("h.y")), signed("y", 2, 9, text("h.x")))
	x := sample.With(sample.Bare("x", 1, "h.y"), signed("l.x", 3, 9, text("m.x")), signed("m.x", 3, 9, text("l.x")), signed("k.x", 3, 9, text("l.x")), signed("t.x", 3, 9, text("u.x")))
	w := serve(root, x, sample.Bare("y", 1, "h.x"))
	check(t, w, "x", []string{"y"}, []string{"x", "y"})
	check(t, w, "y", []string{"x"}, []string{"y", "x"})
	check(t, w, ".", nil, nil)
	if l, e := loops.Zones(w); e != api.OK || !slices.Equal(l, []string{"x", "y"}) {
		t.Error(l, e)
	}
	// Alias needs no addresses of servers: x is found without them.
	for s, want := range map[string][]string{"l.x": {"l.x", "m.x"}, "m.x": {"m.x", "l.x"}, "k.x": {"l.x", "m.x"}, "t.x": nil, "q": nil} {
		if l, ok, e := loops.Alias(w, s); e != api.OK || ok != (want != nil) || !slices.Equal(l, want) {
			t.Error(s, l, ok, e)
		}
	}
	glue := sample.With(root, signed("h.y", 1, 9, nums(4)))
	w = serve(glue, sample.With(x, signed("h.x", 1, 1, nums(3))), sample.Bare("y", 1, "h.x"))
	check(t, w, "x", []string{"y"}, []string{"x", "y"})
	own := sample.With(sample.Bare(".", 1, "a.ns"), signed("x", 2, 9, text("h.x"), text("h.y")), signed("y", 2, 9, text("h.y")), signed("h.y", 1, 9, nums(4)))
	w = serve(own, sample.Bare("x", 1, "h.x"), sample.With(sample.Bare("y", 1, "h.y"), signed("h.y", 1, 1, nums(4))))
	check(t, w, "x", []string{"x", "y"}, []string{"x"})
	check(t, w, "y", nil, nil)
	if l, e := loops.Zones(w); e != api.OK || len(l) > 0 {
		t.Error(l, e)
	}
	w = serve(own, sample.Bare("x", 1, "h.x"), sample.Bare("y", 1, "h.y"))
	if l, e := loops.Zones(w); e != api.OK || !slices.Equal(l, []string{"x"}) {
		t.Error(l, e)
	}
	for want, c := range map[api.Errno]struct {
		w    api.World
		zone string
	}{api.ErrArg: {w, "X"}, api.ErrNone: {w, "z"}} {
		n, e := loops.Needs(c.w, c.zone)
		l, ok, f := loops.Least(c.w, c.zone)
		if e != want || f != want || ok || len(n)+len(l) > 0 {
			t.Error(e, f)
		}
	}
	if l, ok, e := loops.Alias(w, "X"); e != api.ErrArg || ok || len(l) > 0 {
		t.Error(e)
	}
	if l, e := loops.Zones(api.World{}); e != api.ErrArg || len(l) > 0 {
		t.Error(e)
	}
}

// P17.2 to P17.7: in arbitrary worlds.
func TestLaws(t *testing.T) {
	d := sample.New(26)
	for range 150 {
		w := d.World()
		turned := w
		turned.Hosts, turned.Zones = slices.Clone(w.Hosts), slices.Clone(w.Zones)
		slices.Reverse(turned.Zones)
		turned.Hosts[0].Owner = 9
		for _, s := range []string{"l.x", "m.x", "l.y", "m.ns", "l.y.x", "t"} {
			l, ok, _ := loops.Alias(w, s)
			if again, _, _ := loops.Alias(turned, s); !reflect.DeepEqual(l, again) {
				t.Error("order")
			}
			if _, e := world.Truth(w, q(s, 1)); ok && e == api.OK {
				t.Error(s, "leads to a loop, but has a truth")
			}
			for i, n := range l {
				if m, _, _ := loops.Alias(w, n); m[0] != n || len(m) != len(l) || m[1%len(m)] != l[(i+1)%len(l)] {
					t.Error(l, m)
				}
			}
		}
		dark, _ := loops.Zones(w)
		if again, _ := loops.Zones(turned); !slices.Equal(dark, again) {
			t.Error("order")
		}
		for _, p := range w.Zones {
			zone := p.Zone.Apex
			n, _ := loops.Needs(w, zone)
			l, ok, _ := loops.Least(w, zone)
			if again, _, _ := loops.Least(turned, zone); !slices.Equal(l, again) {
				t.Error("order")
			}
			if ok && (l[0] != zone || slices.Contains(n, zone) != (len(l) == 1)) {
				t.Error(zone, l)
			}
			for i, x := range l {
				m, _ := loops.Needs(w, x)
				if !slices.Contains(m, l[(i+1)%len(l)]) {
					t.Error(l)
				}
				if k, _, _ := loops.Least(w, x); len(k) == 0 || len(k) > len(l) {
					t.Error(l, k)
				}
			}
			if !slices.Contains(dark, zone) {
				a, e := world.Truth(w, q(zone, 4))
				b := newest(w, zone)
				if e != api.OK || !reflect.DeepEqual(a, b) {
					t.Error(zone, a, b)
				}
			}
			if len(n) == 0 && zone != "." && slices.Contains(dark, zone) {
				above, _ := name.Parent(zone)
				if refer, e := world.Truth(w, q(above, 4)); e == api.OK && refer.Kind == api.AnsData && !slices.Contains(dark, above) {
					if a, ok := delegation(w, above, zone); ok && len(a) > 0 {
						t.Error(zone, "could be reached")
					}
				}
			}
		}
	}
}

// newest returns what the copy of an apex says of its start.
func newest(w api.World, zone string) api.Answer {
	var best api.Answer
	for _, p := range w.Zones {
		a, _ := lookup.Answer(p.Zone, q(zone, 4))
		if p.Zone.Apex == zone && (best.Kind == 0 || a.Sets[0].Set.Data[0].N > best.Sets[0].Set.Data[0].N) {
			best = a
		}
	}
	return best
}

// delegation returns the addresses in the delegation of a zone by another one.
func delegation(w api.World, above, zone string) ([]api.Signed, bool) {
	best := newest(w, above).Sets[0].Set.Data[0].N
	for _, p := range w.Zones {
		if a, _ := lookup.Answer(p.Zone, q(zone, 2)); p.Zone.Apex == above && a.Kind == api.AnsRefer && a.Cut == zone {
			start, _ := lookup.Answer(p.Zone, q(above, 4))
			if start.Sets[0].Set.Data[0].N == best {
				return a.Sets[1:], true
			}
		}
	}
	return nil, false
}

// P17.1: a host that is known only by an alias, or not at all, does not help to reach a zone; needs are in order.
func TestMore(t *testing.T) {
	root := sample.With(sample.Bare(".", 1, "a.ns"), signed("x", 2, 9, text("h.y")), signed("y", 2, 9, text("g.y")), signed("g.y", 1, 9, nums(4)), signed("v", 2, 9, text("a.y"), text("b.x"), text("c")), signed("u", 2, 9, text("r")), signed("r", 1, 9, nums(1)))
	y := sample.With(sample.Bare("y", 1, "g.y"), signed("h.y", 3, 9, text("g.y")), signed("g.y", 1, 9, nums(4)))
	w := serve(root, sample.Bare("x", 1, "h.y"), y, sample.Bare("v", 1, "c"), sample.Bare("u", 1, "r"), sample.Bare("q.u", 1, "r"))
	if l, e := loops.Zones(w); e != api.OK || !slices.Equal(l, []string{"q.u", "v", "x"}) {
		t.Error(l, e)
	}
	if l, e := loops.Needs(w, "v"); e != api.OK || !slices.Equal(l, []string{".", "x", "y"}) {
		t.Error(l, e)
	}
	w.Zones[2].Zone = sample.With(sample.Bare("y", 1, "g.y"), signed("h.y", 1, 9, nums(4)))
	if l, e := loops.Zones(w); e != api.OK || !slices.Equal(l, []string{"q.u", "v"}) {
		t.Error(l, e)
	}
	if l, e := loops.Needs(w, "q.u"); e != api.OK || len(l) > 0 {
		t.Error(l, e)
	}
	if l, ok, e := loops.Least(w, "."); e != api.OK || ok || len(l) > 0 {
		t.Error(l, e)
	}
	if l, ok, e := loops.Alias(api.World{}, "x"); e != api.ErrArg || ok || len(l) > 0 {
		t.Error(e)
	}
	if l, e := loops.Needs(api.World{}, "x"); e != api.ErrArg || len(l) > 0 {
		t.Error(e)
	}
	w.Zones = w.Zones[1:]
	if l, e := loops.Zones(w); e != api.OK || len(l) != 5 {
		t.Error(l, e)
	}
}

package depend_test

import (
	"reflect"
	"slices"
	"testing"

	"nameplan/api"
	"nameplan/depend"
	"nameplan/sample"
	"nameplan/world"
)

var text, nums, signed = sample.Text, sample.Nums, sample.Signed

func q(n string, typ int) api.Question { return api.Question{Name: n, Type: typ} }

func serve(zones ...api.Zone) api.World {
	w := api.World{Hosts: sample.Hosts(), Anchor: signed(".", 6, 5, nums(1, 1)).Set, Hints: []int{1}}
	for i, z := range zones {
		w.Zones = append(w.Zones, api.Placed{Host: i % 5, Zone: z})
	}
	return w
}

// P19.1: the example of the document, with an alias.
func TestExample(t *testing.T) {
	root := sample.With(sample.Bare(".", 1, "r"), signed("x", 2, 9, text("h.y")), signed("y", 2, 9, text("a.ns"), text("g.y")), signed("z", 2, 9, text("r")))
	x := sample.With(sample.Bare("x", 1, "h.y"), signed("l.x", 3, 9, text("t.z")))
	w := serve(root, x, sample.Bare("y", 1, "g.y"), sample.Bare("z", 1, "r"))
	for s, want := range map[string][]string{"t.x": {".", "x", "y"}, "l.x": {".", "x", "y", "z"}, "t.y": {".", "y"}, "q": {"."}, ".": {"."}} {
		if l, e := depend.Zones(w, s); e != api.OK || !slices.Equal(l, want) {
			t.Error(s, l, e)
		}
	}
	if l, e := depend.Owners(w, "t.x"); e != api.OK || !slices.Equal(l, []int{0, 1}) {
		t.Error(l, e)
	}
	if l, e := depend.Owners(w, "q"); e != api.OK || !slices.Equal(l, []int{0}) {
		t.Error(l, e)
	}
	for zone, want := range map[string][]api.Question{"y": {q("x", 2)}, "x": nil, ".": nil} {
		if l, e := depend.Shortest(w, "t.x", zone); e != api.OK || !slices.Equal(l, want) {
			t.Error(zone, l, e)
		}
	}
	if l, e := depend.Shortest(w, "l.x", "z"); e != api.OK || !slices.Equal(l, []api.Question{q("l.x", 3)}) {
		t.Error(l, e)
	}
	for want, zone := range map[api.Errno]string{api.ErrNone: "z", api.ErrArg: "Z"} {
		if l, e := depend.Shortest(w, "t.x", zone); e != want || len(l) > 0 {
			t.Error(l, e)
		}
	}
	_, e := depend.Zones(w, "")
	_, f := depend.Owners(w, "")
	_, g := depend.Shortest(w, "", "x")
	_, h := depend.Zones(api.World{}, "x")
	if e != api.ErrArg || f != e || g != e || h != e {
		t.Error(e, f, g, h)
	}
	empty := w
	empty.Zones = nil
	if l, e := depend.Zones(empty, "t.x"); e != api.OK || !slices.Equal(l, []string{"."}) {
		t.Error(l, e)
	}
}

// P19.2 to P19.6: in arbitrary worlds.
func TestLaws(t *testing.T) {
	d := sample.New(28)
	for range 100 {
		w := d.World()
		turned := w
		turned.Zones = slices.Clone(w.Zones)
		slices.Reverse(turned.Zones)
		for _, s := range []string{"l.x", "m.x", "l.y", "m.ns", "l.y.x", "t", "h.x"} {
			l, e := depend.Zones(w, s)
			if again, _ := depend.Zones(turned, s); e != api.OK || !slices.Equal(l, again) || !slices.Contains(l, ".") {
				t.Error(s, l, again)
			}
			owners, _ := depend.Owners(w, s)
			need := map[int]bool{}
			for _, p := range w.Zones {
				if !slices.Contains(l, p.Zone.Apex) {
					continue
				}
				need[w.Hosts[p.Host].Owner] = true
				for _, x := range p.Zone.Sets[0].Set.Data {
					if more, _ := depend.Zones(w, x.Text); slices.ContainsFunc(more, func(z string) bool { return !slices.Contains(l, z) }) && newest(w, p) {
						t.Error(s, l, x.Text, more)
					}
				}
			}
			if len(need) != len(owners) || !slices.IsSorted(owners) {
				t.Error(owners, need)
			}
			less := w
			less.Zones = slices.DeleteFunc(slices.Clone(w.Zones), func(p api.Placed) bool { return !slices.Contains(l, p.Zone.Apex) })
			a, e1 := world.Truth(w, q(s, 1))
			b, e2 := world.Truth(less, q(s, 1))
			if again, _ := depend.Zones(less, s); e1 != e2 || !reflect.DeepEqual(a, b) || !slices.Equal(l, again) {
				t.Error(s, "needs others")
			}
			lists(t, w, s, l)
		}
	}
}

// newest reports whether a copy is that of its apex.
func newest(w api.World, p api.Placed) bool {
	n := func(x api.Placed) int {
		for _, s := range x.Zone.Sets {
			if s.Set.Type == 4 {
				return s.Set.Data[0].N
			}
		}
		return 0
	}
	return !slices.ContainsFunc(w.Zones, func(x api.Placed) bool {
		return x.Zone.Apex == p.Zone.Apex && (n(x) > n(p) || n(x) == n(p) && x.Host < p.Host)
	})
}

// lists checks the shortest lists of a name.
func lists(t *testing.T, w api.World, s string, l []string) {
	var all [][]api.Question
	for _, zone := range []string{".", "x", "y", "ns", "y.x", "q"} {
		path, e := depend.Shortest(w, s, zone)
		if (e == api.OK) != slices.Contains(l, zone) {
			t.Error(s, zone, e)
		}
		if e == api.OK {
			all = append(all, path)
		}
	}
	for _, path := range all {
		if len(path) > 1 && !slices.ContainsFunc(all, func(x []api.Question) bool { return len(x) < len(path) }) {
			t.Error(path)
		}
	}
}

// P19.1: servers of a cut without a copy, servers that only the copy names, and zones that are no worlds.
func TestMore(t *testing.T) {
	root := sample.With(sample.Bare(".", 1, "r"), signed("x", 2, 9, text("h.y")), signed("y", 2, 9, text("r")), signed("z", 2, 9, text("r")), signed("v", 2, 9, text("r")))
	w := serve(root, sample.With(sample.Bare("v", 1, "h.z"), signed("c.v", 2, 9, text("h.x"))))
	for s, want := range map[string][]string{"t.x": {".", "x", "y"}, "t.v": {".", "v", "z"}, "t.c.v": {".", "v", "c.v", "x", "y", "z"}} {
		if l, e := depend.Zones(w, s); e != api.OK || !slices.Equal(l, want) {
			t.Error(s, l, e)
		}
	}
	if l, e := depend.Owners(w, "t.c.v"); e != api.OK || !slices.Equal(l, []int{0, 1}) {
		t.Error(l, e)
	}
	if l, e := depend.Shortest(w, "t.c.v", "y"); e != api.OK || !slices.Equal(l, []api.Question{q("c.v", 2), q("x", 2)}) {
		t.Error(l, e)
	}
	_, e := depend.Owners(api.World{}, "x")
	_, f := depend.Shortest(api.World{}, "x", "x")
	if e != api.ErrArg || f != e {
		t.Error(e, f)
	}
}

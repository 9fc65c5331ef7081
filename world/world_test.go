package world_test

import (
	"reflect"
	"slices"
	"testing"

	"nameplan/api"
	"nameplan/name"
	"nameplan/sample"
	"nameplan/world"
)

var text, nums, signed = sample.Text, sample.Nums, sample.Signed

func q(n string, typ int) api.Question { return api.Question{Name: n, Type: typ} }

func example() api.World {
	root := sample.With(sample.Bare(".", 1, "a.ns"), signed("x", 2, 9, text("b.ns")), signed("b.ns", 1, 9, nums(2)))
	x := sample.With(sample.Bare("x", 1, "b.ns"), signed("t.x", 5, 9, text("t")), signed("l.x", 3, 9, text("t.x")))
	return api.World{Hosts: []api.Host{{Name: "a.ns", Addr: 1}, {Name: "b.ns", Addr: 2, Owner: 1}}, Zones: []api.Placed{{Host: 0, Zone: root}, {Host: 1, Zone: x}}, Anchor: signed(".", 6, 5, nums(1, 1)).Set, Hints: []int{1}}
}

// P16.1: the example of the document.
func TestExample(t *testing.T) {
	w := example()
	a, e := world.Truth(w, q("l.x", 5))
	if e != api.OK || a.Kind != api.AnsData || len(a.Sets) != 2 || a.Sets[0].Set.Type != 3 || a.Sets[1].Set.Name != "t.x" {
		t.Error(a, e)
	}
	if a, e := world.Ask(w, 1, q("t.x", 5)); e != api.OK || a.Kind != api.AnsRefer || a.Cut != "x" {
		t.Error(a, e)
	}
	if a, e := world.Ask(w, 2, q("y", 5)); e != api.OK || a.Kind != api.AnsRefused || len(a.Sets) > 0 {
		t.Error(a, e)
	}
	if a, e := world.Ask(w, 3, q("y", 5)); e != api.ErrNone || a.Kind != 0 {
		t.Error(a, e)
	}
	for s, want := range map[string]string{"t.x": "x", "y": ".", ".": "."} {
		if h, e := world.Home(w, s); h != want || e != api.OK {
			t.Error(s, h, e)
		}
	}
	w.Zones = w.Zones[1:]
	if h, e := world.Home(w, "y"); h != "" || e != api.ErrNone {
		t.Error(h, e)
	}
	if a, e := world.Truth(w, q("t.x", 5)); e != api.ErrDark || a.Kind != 0 {
		t.Error(a, e)
	}
	both := example()
	both.Zones = append(both.Zones, api.Placed{Host: 0, Zone: both.Zones[1].Zone})
	for typ, kind := range map[int]int{2: api.AnsData, 6: api.AnsNoData, 7: api.AnsNoData} {
		a, _ := world.Ask(both, 1, q("x", typ))
		b, _ := world.Ask(both, 2, q("x", typ))
		if a.Kind != kind || b.Kind != kind || typ == 6 && (a.Sets[0].Set.Name != "." || b.Sets[0].Set.Name != "x") {
			t.Error(typ, a, b)
		}
	}
}

// P1, P16.8: damaged worlds are refused.
func TestDamage(t *testing.T) {
	for i, change := range []func(w *api.World){
		func(w *api.World) { w.Hosts = append(w.Hosts, api.Host{Name: "c", Addr: 1}) }, func(w *api.World) { w.Hosts = append(w.Hosts, api.Host{Name: "*", Addr: 3}) }, func(w *api.World) { w.Hosts = append(w.Hosts, api.Host{Addr: 3}) },
		func(w *api.World) { w.Hosts[0].Addr = 0 }, func(w *api.World) { w.Hosts[0].Addr = 1000001 }, func(w *api.World) { w.Hosts[0].Owner = 32 }, func(w *api.World) { w.Hosts[0].Owner = -1 },
		func(w *api.World) {
			for i := range 63 {
				w.Hosts = append(w.Hosts, api.Host{Name: "c", Addr: 10 + i})
			}
		},
		func(w *api.World) { w.Zones = append(w.Zones, w.Zones[0]) }, func(w *api.World) { w.Zones[0].Host = 2 }, func(w *api.World) { w.Zones[0].Host = -1 }, func(w *api.World) { w.Zones[0].Zone = api.Zone{} },
		func(w *api.World) { w.Anchor = api.Set{} }, func(w *api.World) { w.Anchor.Name = "x" }, func(w *api.World) { w.Anchor.Type = 7 }, func(w *api.World) { w.Hints = nil }, func(w *api.World) { w.Hints = make([]int, 1) }, func(w *api.World) { w.Hints = []int{1, 1, 1, 1, 1, 1, 1, 1, 1} }, func(w *api.World) { w.Hints = []int{1000001} },
		func(w *api.World) {
			for i := range 500 {
				w.Zones = append(w.Zones, api.Placed{Zone: sample.Bare("z"+string([]byte{byte('a' + i/26), byte('a' + i%26)}), 1, "a")})
			}
		},
	} {
		w := example()
		change(&w)
		a, e := world.Ask(w, 2, q("x", 1))
		b, f := world.Truth(w, q("x", 1))
		h, g := world.Home(w, "x")
		if world.Valid(w) || a.Kind+b.Kind != 0 || h != "" || e != api.ErrArg || f != api.ErrArg || g != api.ErrArg {
			t.Error(i, e, f, g)
		}
	}
	w := example()
	_, e := world.Ask(w, 9, q("x", 9))
	_, f := world.Truth(w, q("", 1))
	_, g := world.Home(w, "")
	if !world.Valid(w) || e != api.ErrArg || f != api.ErrArg || g != api.ErrArg {
		t.Error(e, f, g)
	}
}

var asked = []string{".", "x", "y", "ns", "l.x", "m.x", "l.y", "m.ns", "l.y.x", "t", "h.x", "q.y.x", "a.ns"}

// P16.2, P16.3, P16.4, P16.7: in arbitrary worlds.
func TestLaws(t *testing.T) {
	d := sample.New(24)
	for range 60 {
		w := d.World()
		if !world.Valid(w) {
			t.Fatal(w)
		}
		turned, named, older := w, w, w
		turned.Zones = slices.Clone(w.Zones)
		slices.Reverse(turned.Zones)
		named.Hosts = slices.Clone(w.Hosts)
		for i := range named.Hosts {
			named.Hosts[i].Name, named.Hosts[i].Addr = "q", 50+i
		}
		older.Hosts = append(slices.Clone(w.Hosts), api.Host{Name: "new", Addr: 99})
		for _, apex := range []string{"x", "y"} {
			if h, _ := world.Home(w, apex); h == apex {
				older.Zones = append(slices.Clone(older.Zones), api.Placed{Host: 5, Zone: sample.Bare(apex, 0, "h")})
			}
		}
		for _, s := range asked {
			home, e := world.Home(w, s)
			for _, p := range w.Zones {
				in, _ := name.Under(s, p.Zone.Apex)
				if below, _ := name.Under(p.Zone.Apex, home); in && (e != api.OK || below && p.Zone.Apex != home) {
					t.Error(s, home)
				}
			}
			for typ := 1; typ <= 8; typ++ {
				a, e := world.Truth(w, q(s, typ))
				for _, other := range []api.World{turned, named, older} {
					if b, f := world.Truth(other, q(s, typ)); f != e || !reflect.DeepEqual(a, b) {
						t.Error(s, typ, a, b)
					}
				}
				for i, h := range w.Hosts {
					alone := w
					alone.Zones = slices.DeleteFunc(slices.Clone(w.Zones), func(p api.Placed) bool { return p.Host != i })
					a, e := world.Ask(w, h.Addr, q(s, typ))
					if b, f := world.Ask(alone, h.Addr, q(s, typ)); f != e || !reflect.DeepEqual(a, b) {
						t.Error(s, typ, a, b)
					}
				}
			}
		}
	}
}

// P16.5, P16.6: aliases, and referrals.
func TestTruth(t *testing.T) {
	d := sample.New(25)
	for range 60 {
		w := d.World()
		for _, s := range asked {
			for typ := 1; typ <= 7; typ++ {
				a, e := world.Truth(w, q(s, typ))
				if typ == 3 {
					continue
				}
				if al, f := world.Truth(w, q(s, 3)); f == api.OK && al.Kind == api.AnsData {
					b, g := world.Truth(w, q(al.Sets[0].Set.Data[0].Text, typ))
					if g == api.OK && len(b.Sets) < 8 && (e != api.OK || !reflect.DeepEqual(a.Sets, append(al.Sets, b.Sets...))) || g != api.OK && e != g {
						t.Error(s, typ, a, b, e, g)
					}
				}
			}
		}
	}
	z := sample.Bare(".", 1, "a")
	for i := range 9 {
		z = sample.With(z, signed(string([]byte{byte('a' + i)}), 3, 1, text(string([]byte{byte('b' + i)}))))
	}
	w := example()
	w.Zones = []api.Placed{{Host: 0, Zone: z}}
	if a, e := world.Truth(w, q("a", 1)); e != api.ErrLoop || a.Kind != 0 {
		t.Error(a, e)
	}
	if a, e := world.Truth(w, q("b", 1)); e != api.OK || len(a.Sets) != 9 || a.Kind != api.AnsNoName {
		t.Error(a, e)
	}
}

// P16.1: the edges of what is valid.
func TestEdges(t *testing.T) {
	for i, c := range []struct {
		change func(w *api.World)
		good   bool
	}{
		{func(w *api.World) { w.Hosts[0].Addr = 1000000 }, true}, {func(w *api.World) { w.Hosts[0].Owner = 31 }, true}, {func(w *api.World) { w.Hints = []int{1000000} }, true}, {func(w *api.World) { w.Hints = []int{1, 1, 1, 1, 1, 1, 1, 1} }, true}, {func(w *api.World) { w.Hosts[1].Name = "a.ns" }, true},
		{func(w *api.World) {
			for i := range 62 {
				w.Hosts = append(w.Hosts, api.Host{Name: "c", Addr: 10 + i})
			}
		}, true},
		{func(w *api.World) { w.Zones = many(498) }, true}, {func(w *api.World) { w.Zones = many(500) }, true}, {func(w *api.World) { w.Zones = many(501) }, false},
		{func(w *api.World) { *w = wide(4000) }, true}, {func(w *api.World) { *w = wide(4001) }, false},
	} {
		w := example()
		c.change(&w)
		if world.Valid(w) != c.good {
			t.Error(i)
		}
	}
	w := example()
	for typ := 1; typ <= 8; typ++ {
		if _, e := world.Ask(w, 1, q("x", typ)); e != api.OK {
			t.Error(typ, e)
		}
	}
	for _, x := range []api.Question{q("x", 0), q("x", -1), q("x", 9), q("X", 1)} {
		_, e := world.Ask(w, 1, x)
		_, f := world.Truth(w, x)
		if e != api.ErrArg || f != e {
			t.Error(x, e, f)
		}
	}
}

// many returns copies of as many apexes, all of the host 0.
func many(n int) []api.Placed {
	var out []api.Placed
	for i := range n {
		out = append(out, api.Placed{Zone: sample.Bare("z"+string([]byte{byte('a' + i/26), byte('a' + i%26)}), 1, "a")})
	}
	return out
}

// wide returns a world with as many copies, of several hosts.
func wide(n int) api.World {
	w := example()
	w.Zones = nil
	for i := range 20 {
		w.Hosts = append(w.Hosts, api.Host{Name: "c", Addr: 10 + i})
	}
	for _, p := range many(n / 20) {
		for host := range 20 {
			w.Zones = append(w.Zones, api.Placed{Host: host, Zone: p.Zone})
		}
	}
	for len(w.Zones) < n {
		w.Zones = append(w.Zones, api.Placed{Host: 21, Zone: w.Zones[0].Zone})
	}
	return w
}

// P16.1: of the copies of a host the closest answers, but for anchors the one above.
func TestClosest(t *testing.T) {
	zones := []api.Zone{sample.With(sample.Bare(".", 1, "r"), signed("x", 2, 1, text("s"))), sample.With(sample.Bare("x", 1, "s"), signed("y.x", 2, 1, text("s")), signed("y.x", 6, 1, nums(4, 1))), sample.With(sample.Bare("y.x", 1, "s"), signed("t.y.x", 5, 1, text("t")))}
	orders := [][]int{{0, 1, 2}, {2, 1, 0}, {1, 2, 0}, {1, 0, 2}, {2, 0, 1}, {0, 2, 1}}
	for _, order := range orders {
		w := example()
		w.Zones = nil
		for _, i := range order {
			w.Zones = append(w.Zones, api.Placed{Host: 1, Zone: zones[i]})
		}
		a, e := world.Ask(w, 2, q("y.x", 6))
		b, f := world.Ask(w, 2, q("t.y.x", 5))
		c, g := world.Ask(w, 2, q("y.x", 4))
		d, h := world.Ask(w, 2, q("t.y.x", 6))
		if e != api.OK || f != e || g != e || h != e || a.Kind != api.AnsData || b.Kind != api.AnsData || c.Kind != api.AnsData || d.Kind != api.AnsNoData || d.Sets[0].Set.Name != "y.x" {
			t.Error(order, a, b, c, d)
		}
		for s, want := range map[string]string{"t.y.x": "y.x", "y.x": "y.x", "b.x": "x", "y": "."} {
			if h, e := world.Home(w, s); h != want || e != api.OK {
				t.Error(order, s, h, e)
			}
		}
		w.Zones = slices.DeleteFunc(w.Zones, func(p api.Placed) bool { return p.Zone.Apex == "x" })
		if a, _ := world.Ask(w, 2, q("y.x", 6)); a.Kind != api.AnsRefer || a.Cut != "x" {
			t.Error(order, a)
		}
		w.Zones = slices.DeleteFunc(w.Zones, func(p api.Placed) bool { return p.Zone.Apex == "." })
		if a, _ := world.Ask(w, 2, q("y.x", 6)); a.Kind != api.AnsNoData {
			t.Error(order, a)
		}
	}
}

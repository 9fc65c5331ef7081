package wish_test

import (
	"reflect"
	"slices"
	"testing"

	"nameplan/api"
	"nameplan/history"
	"nameplan/sample"
	"nameplan/sign"
	"nameplan/steps"
	"nameplan/trust"
	"nameplan/value"
	"nameplan/wish"
	"nameplan/world"
	"nameplan/zone"
)

var text, nums, signed = sample.Text, sample.Nums, sample.Signed

func q(n string, typ int) api.Question { return api.Question{Name: n, Type: typ} }

func tree() api.World {
	w, _ := history.At(sample.Tree(), 0)
	return w
}

func key(n int) api.Key { return api.Key{N: n, Alg: 1} }

var (
	move  = api.Wish{Kind: 1, Zone: "x", Hosts: []int{0, 2}}
	keys  = api.Wish{Kind: 2, Zone: "x", Key: key(8)}
	addr  = api.Wish{Kind: 3, Zone: "x", Name: "h.x", Hosts: []int{4}}
	split = api.Wish{Kind: 4, Zone: "x", Name: "w.x", Hosts: []int{0, 3}, Key: key(8)}
	down  = api.Wish{Kind: 1, Zone: "y.x", Hosts: []int{1}}
)

func find(t *testing.T, z api.Zone, x api.Question) api.Signed {
	t.Helper()
	s, ok, e := zone.Find(z, x)
	if !ok || e != api.OK {
		t.Fatal(x, e)
	}
	return s
}

type put struct {
	host  int
	apex  string
	stops bool
}

func brief(s api.Stage) []put {
	var out []put
	for _, p := range s.Puts {
		out = append(out, put{p.Host, p.Zone.Apex, len(p.Zone.Sets) == 0})
	}
	return out
}

// P34.1: the stages of each kind of wish.
func TestStages(t *testing.T) {
	for i, c := range []struct {
		x    api.Wish
		want [][]put
	}{
		{move, [][]put{{{0, "x", false}}, {{2, "x", false}, {3, "x", false}, {0, "x", false}, {0, ".", false}, {1, ".", false}}, {{3, "x", true}}}},
		{keys, [][]put{{{2, "x", false}, {3, "x", false}}, {{0, ".", false}, {1, ".", false}}, {{2, "x", false}, {3, "x", false}}}},
		{addr, [][]put{{{4, "x", false}}, {{0, ".", false}, {1, ".", false}, {2, "x", false}, {3, "x", false}, {4, "x", false}}, {{2, "x", true}}}},
		{split, [][]put{{{0, "w.x", false}, {3, "w.x", false}}, {{2, "x", false}, {3, "x", false}}}},
		{api.Wish{Kind: 1, Zone: "x", Hosts: []int{3, 2}}, [][]put{{{2, "x", false}, {3, "x", false}, {0, ".", false}, {1, ".", false}}}},
	} {
		l, e := wish.Stages(tree(), c.x, 0, 20000000)
		var got [][]put
		for _, s := range l {
			got = append(got, brief(s))
		}
		if e != api.OK || !reflect.DeepEqual(got, c.want) {
			t.Error(i, got, e)
		}
	}
	l, _ := wish.Stages(tree(), move, 0, 50)
	z, p := l[1].Puts[0].Zone, l[1].Puts[3].Zone
	if !slices.Equal(find(t, z, q("x", 2)).Set.Data, []api.Datum{text("a.ns"), text("h.x")}) || !slices.Equal(find(t, p, q("x", 2)).Set.Data, []api.Datum{text("a.ns"), text("h.x")}) || find(t, z, q("x", 4)).Set.Data[0].N != 2 || find(t, p, q(".", 4)).Set.Data[0].N != 2 || find(t, z, q("x", 2)).Sigs[0].Until != 50 {
		t.Error(z, p)
	}
	l, _ = wish.Stages(tree(), split, 0, 50)
	n, rest := l[0].Puts[0].Zone, l[1].Puts[0].Zone
	names, _ := zone.Names(rest)
	if !slices.Contains(names, "w.x") || find(t, n, q("w.x", 1)).Set.Life != 10 || find(t, n, q("w.x", 4)).Set.Data[0] != nums(1, 5) || find(t, rest, q("w.x", 6)).Set.Data[0] != nums(8, 1) || len(find(t, rest, q("w.x", 2)).Sigs) > 0 || find(t, n, q("w.x", 7)).Set.Data[0] != nums(8, 1) {
		t.Error(n, rest)
	}
	if _, ok, _ := zone.Find(rest, q("w.x", 1)); ok {
		t.Error("sets under the name stay")
	}
	l, _ = wish.Stages(tree(), addr, 0, 50)
	if s := find(t, l[1].Puts[0].Zone, q("h.x", 1)); !slices.Equal(s.Set.Data, []api.Datum{nums(5)}) || s.Set.Life != 10 {
		t.Error(s)
	}
	glue := api.Wish{Kind: 1, Zone: "x", Hosts: []int{0, 2, 4}}
	l, _ = wish.Stages(tree(), glue, 0, 50)
	for _, z := range []api.Zone{l[1].Puts[0].Zone, l[1].Puts[len(l[1].Puts)-1].Zone} {
		if s := find(t, z, q("g.y.x", 1)); s.Set.Data[0] != nums(5) || s.Set.Life != 10 {
			t.Error(s)
		}
	}
}

// P34.1: wishes that are not valid, and errors.
func TestErrors(t *testing.T) {
	with := func(x api.Wish, f func(x *api.Wish)) api.Wish { f(&x); return x }
	for i, x := range []api.Wish{
		{}, {Kind: 5, Zone: "x"}, with(move, func(x *api.Wish) { x.Zone = "." }), with(move, func(x *api.Wish) { x.Zone = "q" }), with(move, func(x *api.Wish) { x.Name = "x" }), with(move, func(x *api.Wish) { x.Key = key(1) }), with(move, func(x *api.Wish) { x.Hosts = nil }), with(move, func(x *api.Wish) { x.Hosts = []int{1, 1} }), with(move, func(x *api.Wish) { x.Hosts = []int{5} }), with(move, func(x *api.Wish) { x.Hosts = []int{-1} }),
		with(keys, func(x *api.Wish) { x.Key.N = 0 }), with(keys, func(x *api.Wish) { x.Key.Alg = 4 }), with(keys, func(x *api.Wish) { x.Hosts = []int{1} }), with(keys, func(x *api.Wish) { x.Name = "x" }),
		with(addr, func(x *api.Wish) { x.Name = "*.x" }), with(addr, func(x *api.Wish) { x.Name = "" }), with(addr, func(x *api.Wish) { x.Hosts = []int{1, 2} }), with(addr, func(x *api.Wish) { x.Key = key(1) }),
		with(split, func(x *api.Wish) { x.Name = "x" }), with(split, func(x *api.Wish) { x.Name = "q" }), with(split, func(x *api.Wish) { x.Name = "y.x" }), with(split, func(x *api.Wish) { x.Name = "q.y.x" }), with(split, func(x *api.Wish) { x.Name = "*.x" }), with(split, func(x *api.Wish) { x.Key = key(0) }), with(split, func(x *api.Wish) { x.Hosts = nil }),
	} {
		if l, e := wish.Stages(tree(), x, 0, 1); wish.Valid(tree(), x) || e != api.ErrArg || len(l) > 0 {
			t.Error(i, e)
		}
	}
	for i, c := range [][2]int{{-1, 5}, {5, 4}, {0, 20000001}} {
		if _, e := wish.Stages(tree(), move, c[0], c[1]); e != api.ErrArg {
			t.Error(i, e)
		}
	}
	change := func(apex string, f func(z api.Zone) api.Zone) api.World {
		w := tree()
		for i, p := range w.Zones {
			if p.Zone.Apex == apex {
				w.Zones[i].Zone = f(p.Zone)
			}
		}
		return w
	}
	drop := func(w string, x api.Question) api.World {
		return change(w, func(z api.Zone) api.Zone { z, _ = zone.Drop(z, x); return z })
	}
	cutless := change(".", func(z api.Zone) api.Zone {
		z, _ = zone.Drop(z, q("x", 6))
		z, _ = zone.Drop(z, q("x", 8))
		z, _ = zone.Drop(z, q("x", 2))
		return z
	})
	six := change("x", func(z api.Zone) api.Zone {
		return sample.With(z, signed("x", 7, 10, nums(1, 1), nums(2, 1), nums(3, 1), nums(4, 1), nums(5, 1), nums(6, 1)))
	})
	for i, c := range []struct {
		w api.World
		x api.Wish
		e api.Errno
	}{
		{cutless, move, api.ErrNone}, {cutless, keys, api.ErrNone}, {cutless, addr, api.OK}, {tree(), with(addr, func(x *api.Wish) { x.Name = "q.x" }), api.ErrNone},
		{drop("x", q("x", 7)), move, api.ErrClash}, {drop("x", q("x", 7)), keys, api.ErrClash}, {drop("x", q("x", 7)), addr, api.ErrClash}, {drop("x", q("x", 7)), split, api.ErrClash}, {drop(".", q(".", 7)), move, api.ErrClash}, {drop(".", q("x", 6)), keys, api.ErrClash}, {drop(".", q("x", 6)), move, api.OK},
		{six, keys, api.ErrClash}, {six, move, api.OK}, {tree(), with(keys, func(x *api.Wish) { x.Key = api.Key{N: 2, Alg: 3} }), api.ErrClash}, {tree(), with(keys, func(x *api.Wish) { x.Key = key(2) }), api.OK}, {tree(), with(split, func(x *api.Wish) { x.Name = "l.x" }), api.ErrClash},
	} {
		l, e := wish.Stages(c.w, c.x, 0, 5)
		if e != c.e || (e == api.OK) != (len(l) > 0) {
			t.Error(i, e)
		}
	}
	if ok, e := wish.Done(api.World{}, move); ok || e != api.ErrArg {
		t.Error(e)
	}
	for i, x := range []api.Wish{{Kind: 0}, {Kind: 1, Zone: "x"}, {Kind: 3, Hosts: []int{7}}, {Kind: 4, Zone: "x", Hosts: []int{1}}, {Kind: 4, Name: "x", Hosts: []int{1}}} {
		if ok, e := wish.Done(tree(), x); ok || e != api.ErrArg {
			t.Error(i, e)
		}
	}
}

// P34.2, P34.3, P34.6: what the stages lead to.
func TestDone(t *testing.T) {
	for i, x := range []api.Wish{move, keys, addr, split, down} {
		w := tree()
		l, e := wish.Stages(w, x, 0, 20000000)
		if e != api.OK {
			t.Fatal(i, e)
		}
		for k, s := range l {
			if ok, e := wish.Done(w, x); e != api.OK || ok && k < len(l)-1 {
				t.Error(i, k, ok, e)
			}
			old := w
			if w, e = steps.World(w, s); e != api.OK || !world.Valid(w) {
				t.Fatal(e)
			}
			for _, p := range s.Puts {
				sealed(t, old, p)
			}
			for _, p := range old.Zones {
				put := slices.ContainsFunc(s.Puts, func(x api.Placed) bool { return x.Zone.Apex == p.Zone.Apex })
				if !put && !slices.ContainsFunc(w.Zones, func(x api.Placed) bool { return reflect.DeepEqual(x, p) }) {
					t.Error(i, k, p.Zone.Apex, "has changed")
				}
			}
		}
		if ok, e := wish.Done(w, x); !ok || e != api.OK {
			t.Error(i, ok, e)
		}
	}
}

// sealed checks a zone that is put: signed by its keys, and with the same or the next serial number.
func sealed(t *testing.T, w api.World, p api.Placed) {
	if len(p.Zone.Sets) == 0 {
		return
	}
	keys, _ := trust.Keys(find(t, p.Zone, q(p.Zone.Apex, 7)).Set)
	for _, s := range p.Zone.Sets {
		for _, g := range s.Sigs {
			if !slices.ContainsFunc(keys, func(k api.Key) bool { return sign.Check(s.Set, g, k) }) {
				t.Error(s)
			}
		}
	}
	n, _ := zone.Serial(p.Zone)
	for _, x := range w.Zones {
		m, _ := zone.Serial(x.Zone)
		if x.Zone.Apex == p.Zone.Apex && n != m+1 && !value.SameZone(x.Zone, p.Zone) {
			t.Error(p.Zone.Apex, n, m)
		}
	}
}

// P34.4, P34.5: truth about texts, and trust, at each stage.
func TestKept(t *testing.T) {
	for i, x := range []api.Wish{keys, {Kind: 1, Zone: "x", Hosts: []int{0, 1}}, {Kind: 2, Zone: "y.x", Key: key(9)}, {Kind: 2, Zone: "ns", Key: key(9)}} {
		w := tree()
		l, e := wish.Stages(w, x, 0, 20000000)
		if e != api.OK {
			t.Fatal(e)
		}
		for _, s := range l {
			old := w
			w, _ = steps.World(w, s)
			for _, n := range []string{"w.x", "l.x", "q.x", "t.y.x", "q", "q.y.x"} {
				a, e := world.Truth(old, q(n, 5))
				b, f := world.Truth(w, q(n, 5))
				if e != f || a.Kind != b.Kind {
					t.Error(i, n, a.Kind, b.Kind)
				}
				for k, s := range a.Sets {
					if s.Set.Type == 5 && !value.SameSet(s.Set, b.Sets[k].Set) {
						t.Error(i, n, s, b.Sets[k])
					}
				}
			}
			if x.Kind != api.WishKeys {
				continue
			}
			for _, p := range w.Zones {
				if p.Zone.Apex != x.Zone {
					continue
				}
				var anchor api.Set
				for _, r := range w.Zones {
					if s, ok, _ := zone.Find(r.Zone, q(x.Zone, 6)); ok {
						anchor = s.Set
					}
				}
				if !trust.Matches(anchor, find(t, p.Zone, q(x.Zone, 7)), 50, 1) {
					t.Error(i, "the key set does not match")
				}
			}
		}
	}
}

// done returns the world behind all stages of a wish.
func done(t *testing.T, x api.Wish) api.World {
	w := tree()
	l, e := wish.Stages(w, x, 0, 20000000)
	for _, s := range l {
		w, e = steps.World(w, s)
	}
	if ok, f := wish.Done(w, x); e != api.OK || f != api.OK || !ok {
		t.Fatal(e, f)
	}
	return w
}

// P34.1: each part of being fulfilled, by itself.
func TestParts(t *testing.T) {
	edit := func(w api.World, host int, apex string, f func(z api.Zone) api.Zone) api.World {
		w.Zones = slices.Clone(w.Zones)
		for i, p := range w.Zones {
			if p.Zone.Apex == apex && (host < 0 || p.Host == host) {
				w.Zones[i].Zone = f(p.Zone)
			}
		}
		return w
	}
	add := func(host int) func(w api.World, apex string) api.World {
		return func(w api.World, apex string) api.World {
			for _, p := range w.Zones {
				if p.Zone.Apex == apex {
					w.Zones = append(slices.Clone(w.Zones), api.Placed{Host: host, Zone: p.Zone})
					break
				}
			}
			return w
		}
	}
	without := func(w api.World, apex string) api.World {
		w.Zones = slices.DeleteFunc(slices.Clone(w.Zones), func(p api.Placed) bool { return p.Zone.Apex == apex })
		return w
	}
	put := func(s api.Signed) func(z api.Zone) api.Zone {
		return func(z api.Zone) api.Zone { return sample.With(z, s) }
	}
	m, k, a, s := done(t, move), done(t, keys), done(t, addr), done(t, split)
	for i, c := range []struct {
		w api.World
		x api.Wish
	}{
		{add(1)(m, "x"), move}, {edit(m, -1, "x", put(signed("x", 2, 10, text("h.x")))), move}, {edit(m, -1, ".", put(signed("x", 2, 10, text("h.x")))), move}, {without(m, "x"), move}, {without(m, "."), move},
		{edit(k, 2, "x", put(signed("x", 7, 10, nums(2, 1)))), keys}, {edit(k, 3, "x", put(signed("x", 7, 10, nums(8, 1), nums(9, 1)))), keys}, {edit(k, -1, ".", put(signed("x", 6, 10, nums(2, 1)))), keys}, {without(k, "x"), keys}, {without(k, "."), keys},
		{edit(a, 0, ".", put(signed("h.x", 1, 10, nums(3)))), addr}, {edit(a, -1, "x", put(signed("h.x", 1, 10, nums(3), nums(5)))), addr}, {without(without(a, "."), "x"), addr},
		{add(1)(s, "w.x"), split}, {edit(s, -1, "w.x", put(signed("w.x", 7, 10, nums(9, 1)))), split}, {edit(s, -1, "x", put(signed("w.x", 2, 10, text("h.y")))), split}, {edit(s, -1, "x", put(signed("w.x", 6, 10, nums(9, 1)))), split}, {without(s, "w.x"), split}, {without(s, "x"), split},
	} {
		if !world.Valid(c.w) {
			t.Fatal(i, "not valid")
		}
		if ok, e := wish.Done(c.w, c.x); ok || e != api.OK {
			t.Error(i, ok, e)
		}
	}
	for i, x := range []api.Wish{move, keys, addr, split} {
		if ok, e := wish.Done(api.World{}, x); ok || e != api.ErrArg || wish.Valid(api.World{}, x) {
			t.Error(i, ok, e)
		}
		x.Kind += 4
		if ok, e := wish.Done(tree(), x); x.Kind > 4 && (ok || e != api.ErrArg) {
			t.Error(i, ok, e)
		}
	}
	for _, kind := range []int{-1, 0, 5, 1 << 40} {
		if ok, e := wish.Done(m, api.Wish{Kind: kind, Zone: "x", Name: "w.x", Hosts: []int{2, 0}}); ok || e != api.ErrArg {
			t.Error(kind, ok, e)
		}
	}
	turned := move
	turned.Hosts = []int{2, 0}
	if ok, e := wish.Done(m, turned); !ok || e != api.OK {
		t.Error(ok, e)
	}
}

// P34.1: the numbers of hosts, undelegated zones, and addresses of several hosts.
func TestEdges(t *testing.T) {
	w := tree()
	for i := range 6 {
		w.Hosts = append(w.Hosts, api.Host{Name: "n" + string([]byte{byte('a' + i)}), Addr: 20 + i})
	}
	all := []int{0, 1, 2, 3, 4, 5, 6, 7, 8, 9}
	for n, good := range map[int]bool{0: false, 1: true, 8: true, 9: false} {
		x := move
		x.Hosts = all[:n]
		_, e := wish.Done(w, x)
		if wish.Valid(w, x) != good || (e == api.OK) != good {
			t.Error(n, e)
		}
	}
	two := addr
	two.Hosts = []int{0, 1}
	if wish.Valid(w, two) {
		t.Error("two hosts")
	}
	lone := w
	lone.Zones = append(slices.Clone(w.Zones), api.Placed{Host: 0, Zone: sample.Bare("q.x", 1, "a.ns")})
	x := split
	x.Name = "q.x"
	if wish.Valid(lone, x) || !wish.Valid(w, x) {
		t.Error("a name that is an apex")
	}
	last := w
	last.Hosts = slices.Clone(w.Hosts)
	last.Hosts[9].Name = "a.ns"
	x = move
	x.Hosts = []int{0, 9}
	if wish.Valid(last, x) || !wish.Valid(w, x) {
		t.Error("two hosts with one name")
	}
	// the host h.x has two addresses, that of host 2 and that of host 3; the new host serves x already
	both := tree()
	for i, p := range both.Zones {
		both.Zones[i].Zone = sample.With(p.Zone)
		if s, ok, _ := zone.Find(p.Zone, q("h.x", 1)); ok {
			s.Sigs = nil
			s.Set.Data = []api.Datum{nums(3), nums(4), nums(5)}
			both.Zones[i].Zone = sample.With(p.Zone, s)
		}
	}
	l, e := wish.Stages(both, api.Wish{Kind: 3, Zone: "x", Name: "h.x", Hosts: []int{4}}, 0, 5)
	if e != api.OK || len(l) != 3 || !reflect.DeepEqual(brief(l[0]), []put{{4, "x", false}}) || !reflect.DeepEqual(brief(l[2]), []put{{2, "x", true}, {3, "x", true}}) {
		t.Error(l, e)
	}
	l, e = wish.Stages(both, api.Wish{Kind: 3, Zone: "x", Name: "h.x", Hosts: []int{3}}, 0, 5)
	if e != api.OK || len(l) != 3 || !reflect.DeepEqual(brief(l[0]), []put{{3, "y.x", false}}) || !reflect.DeepEqual(brief(l[2]), []put{{2, "x", true}, {4, "y.x", true}}) {
		t.Error(len(l), e)
	}
	for until, want := range map[int]api.Errno{-1: api.ErrArg, 0: api.OK, 20000000: api.OK, 20000001: api.ErrArg} {
		if _, e := wish.Stages(w, move, 0, until); e != want {
			t.Error(until, e)
		}
	}
	if _, e := wish.Stages(w, move, 5, 5); e != api.OK {
		t.Error(e)
	}
	low := keys
	low.Key = key(1)
	l, e = wish.Stages(w, low, 0, 5)
	if e != api.OK || !slices.Equal(find(t, l[0].Puts[0].Zone, q("x", 7)).Set.Data, []api.Datum{nums(1, 1), nums(2, 1)}) {
		t.Error(e)
	}
	l[0].Puts[0].Zone.Sets[0].Set.Data[0].N = 99
	if l[0].Puts[1].Zone.Sets[0].Set.Data[0].N == 99 || w.Zones[4].Zone.Sets[0].Set.Data[0].N == 99 {
		t.Error("shared memory")
	}
}

package cache_test

import (
	"reflect"
	"slices"
	"strconv"
	"testing"

	"nameplan/api"
	"nameplan/cache"
	"nameplan/sample"
)

var text, nums, signed = sample.Text, sample.Nums, sample.Signed

func q(n string, typ int) api.Question { return api.Question{Name: n, Type: typ} }

func until(s api.Signed, zone string, at int) api.Signed {
	s.Sigs = []api.Sig{{Zone: zone, Key: 1, Alg: 1, Until: at}}
	return s
}

func usable(t *testing.T, c api.Cache, x api.Question, now int) bool {
	_, ok, e := cache.Get(c, x, now)
	if e != api.OK {
		t.Fatal(e)
	}
	return ok
}

// P22.1, P22.2, P22.3: lifetimes.
func TestLife(t *testing.T) {
	for _, c := range []struct {
		s           api.Signed
		first, last int
	}{{signed("w.x", 1, 5, nums(1)), 10, 14}, {until(signed("w.x", 1, 5, nums(1)), "x", 12), 10, 12}, {until(signed("w.x", 1, 5, nums(1)), "x", 50), 10, 14}, {signed("w.x", 1, 0, nums(1)), 10, 10}, {until(signed("w.x", 1, 5, nums(1)), "x", 9), 0, -1}} {
		x, e := cache.Put(api.Cache{}, c.s, "x", 10)
		if e != api.OK || !cache.Valid(x) {
			t.Fatal(e)
		}
		for now := 10; now < 20; now++ {
			if usable(t, x, q("w.x", 1), now) != (now <= c.last) {
				t.Error(c, now)
			}
		}
		if len(x.List) != map[bool]int{true: 1}[c.last > 0] {
			t.Error(x)
		}
	}
	x, e := cache.Put(api.Cache{}, signed("w.x", 1, 100000, nums(1)), "x", 20000000)
	if e != api.OK || x.List[0].Until != 20100000 || !cache.Valid(x) {
		t.Error(e)
	}
	old, _ := cache.Put(api.Cache{}, signed("w.x", 1, 9, nums(1)), "x", 10)
	if x, e := cache.Put(old, until(signed("w.x", 1, 5, nums(2)), "x", 9), "x", 10); e != api.OK || len(x.List) > 0 {
		t.Error("one that is alike stays")
	}
}

// P22.1: errors.
func TestErrors(t *testing.T) {
	good, _ := cache.Put(api.Cache{}, signed("w.x", 1, 5, nums(1)), "x", 10)
	entry := good.List[0]
	change := func(f func(e *api.Entry)) api.Cache { e := entry; f(&e); return api.Cache{List: []api.Entry{e}} }
	for i, c := range []api.Cache{
		{List: []api.Entry{entry, entry}}, {List: make([]api.Entry, 401)}, change(func(e *api.Entry) { e.Zone = "y" }), change(func(e *api.Entry) { e.Zone = "*" }), change(func(e *api.Entry) { e.Until = 0 }), change(func(e *api.Entry) { e.Until = 20100002 }),
		change(func(e *api.Entry) { e.Signed.Set.Name = "X" }), change(func(e *api.Entry) { e.Signed.Set.Type = 2 }), change(func(e *api.Entry) { e.Signed = until(e.Signed, ".", 5) }),
		change(func(e *api.Entry) { e.Signed.Set.Data = nil; e.Signed.Set.Type = 9 }), change(func(e *api.Entry) { e.Signed.Set.Data = nil; e.Signed.Set.Life = 100001 }), change(func(e *api.Entry) { e.Signed.Set.Data = nil; e.Signed = until(e.Signed, "x", 5) }),
	} {
		_, e1 := cache.Put(c, signed("w.x", 1, 5, nums(1)), "x", 10)
		_, e2 := cache.Deny(c, q("w.x", 1), "x", 5, 10)
		_, ok, e3 := cache.Get(c, q("w.x", 1), 10)
		_, e4 := cache.Known(c, 10)
		_, e5 := cache.Clean(c, 10)
		if cache.Valid(c) || ok || e1 != api.ErrArg || e2 != e1 || e3 != e1 || e4 != e1 || e5 != e1 {
			t.Error(i, e1, e2, e3, e4, e5)
		}
	}
	for i, c := range []struct {
		s    api.Signed
		zone string
		now  int
		e    api.Errno
	}{{signed("w.x", 1, 5), "x", 10, api.ErrArg}, {signed("w.x", 1, 5, nums(1)), "y", 10, api.ErrArg}, {signed("w.x", 1, 5, nums(1)), "X", 10, api.ErrArg}, {signed("*.x", 1, 5, nums(1)), "*.x", 10, api.ErrArg}, {signed("w.x", 1, 5, nums(1)), "x", -1, api.ErrArg}, {signed("w.x", 1, 5, nums(1)), "x", 20000001, api.ErrArg}, {until(signed("w.x", 1, 5, nums(1)), ".", 5), "x", 10, api.ErrSign}, {until(signed("w.x", 1, 5, nums(1)), "x", -1), "x", 10, api.ErrSign}} {
		if x, e := cache.Put(good, c.s, c.zone, c.now); e != c.e || len(x.List) > 0 {
			t.Error(i, e)
		}
	}
	for i, c := range []struct {
		x         api.Question
		zone      string
		life, now int
	}{{q("w.x", 9), "x", 1, 1}, {q("w", 1), "x", 1, 1}, {q("*.x", 1), "*.x", 1, 1}, {q("w.x", 1), "x", -1, 1}, {q("w.x", 1), "x", 100001, 1}, {q("w.x", 1), "x", 1, -1}} {
		if x, e := cache.Deny(good, c.x, c.zone, c.life, c.now); e != api.ErrArg || len(x.List) > 0 {
			t.Error(i, e)
		}
	}
	_, _, e := cache.Get(good, q("", 1), 10)
	_, f := cache.Known(good, -1)
	_, g := cache.Clean(good, 20000001)
	if e != api.ErrArg || f != e || g != e {
		t.Error(e, f, g)
	}
	var full api.Cache
	for i := range 400 {
		full, _ = cache.Put(full, signed("n"+strconv.Itoa(i), 1, 5, nums(1)), ".", i/399)
	}
	_, e = cache.Put(full, signed("w", 1, 5, nums(1)), ".", 1)
	_, f = cache.Deny(full, q("w", 1), ".", 5, 1)
	_, g = cache.Put(full, signed("n7", 1, 5, nums(1)), ".", 1)
	x, h := cache.Put(full, signed("w", 1, 5, nums(1)), ".", 5)
	if e != api.ErrFull || f != e || g != api.OK || h != api.OK || len(x.List) != 2 {
		t.Error(e, f, g, h)
	}
}

// P22.4 to P22.7: sequences of what is learned.
func TestLaws(t *testing.T) {
	d := sample.New(31)
	for range 100 {
		var c api.Cache
		for now := range 40 {
			s := signed(sample.Below([]string{"a", "b", "c"}[d.Roll(3)], "x"), 1+4*d.Roll(2), d.Roll(20), nums(1+d.Roll(9)))
			if s.Set.Type == 5 {
				s.Set.Data = []api.Datum{text("t")}
			}
			zone := []string{"x", "."}[d.Roll(2)]
			if d.Roll(3) == 0 {
				s = until(s, zone, d.Roll(60))
			}
			x := q(s.Set.Name, s.Set.Type)
			old := c
			var e api.Errno
			denied := d.Roll(4) == 0
			if denied {
				c, e = cache.Deny(c, x, zone, s.Set.Life, now)
				s = api.Signed{Set: api.Set{Name: x.Name, Type: x.Type, Life: s.Set.Life}}
			} else {
				c, e = cache.Put(c, s, zone, now)
			}
			if e != api.OK || !cache.Valid(c) {
				t.Fatal(e)
			}
			other := func(e api.Entry) bool {
				return e.Signed.Set.Name == x.Name && e.Signed.Set.Type == x.Type && e.Zone == zone || e.Until <= now
			}
			a, b := slices.DeleteFunc(slices.Clone(old.List), other), slices.DeleteFunc(slices.Clone(c.List), other)
			if !slices.EqualFunc(a, b, func(a, b api.Entry) bool { return reflect.DeepEqual(a, b) }) {
				t.Error("others", old, c)
			}
			for _, e := range c.List {
				if e.Zone == zone && e.Signed.Set.Name == x.Name && e.Signed.Set.Type == x.Type && !reflect.DeepEqual(e.Signed.Set, s.Set) {
					t.Error("the later set", e, s)
				}
			}
			if denied {
				i := slices.IndexFunc(old.List, func(e api.Entry) bool {
					return e.Until > now && e.Zone != zone && e.Signed.Set.Name == x.Name && e.Signed.Set.Type == x.Type
				})
				k := slices.IndexFunc(c.List, func(e api.Entry) bool {
					return e.Zone == zone && e.Signed.Set.Name == x.Name && e.Signed.Set.Type == x.Type
				})
				if g, _, _ := cache.Get(c, x, now); i >= 0 && (k < 0 || k == len(c.List)-1) && len(g.Signed.Set.Data) == 0 && len(old.List[i].Signed.Set.Data) > 0 {
					t.Error("a denial hides", old.List[i])
				}
			}
			known, _ := cache.Known(c, now)
			if slices.ContainsFunc(known, func(s api.Signed) bool { return len(s.Set.Data) == 0 }) {
				t.Error("a denial is known")
			}
			clean, _ := cache.Clean(c, now+5)
			for later := now + 5; later < now+15; later++ {
				k1, _ := cache.Known(c, later)
				k2, _ := cache.Known(clean, later)
				k3, _ := cache.Known(c, later-1)
				if !reflect.DeepEqual(k1, k2) || len(k1) > len(k3) {
					t.Error(now, later)
				}
			}
			if again, e := cache.Put(c, s, zone, now+1); !denied && e == api.OK {
				for at := now + 1; at < now+30; at++ {
					if usable(t, c, x, at) && !usable(t, again, x, at) {
						t.Error("put again", at)
					}
				}
			}
		}
	}
}

// P22.1: what is known, and the edges of all ranges.
func TestEdges(t *testing.T) {
	a, b := signed("a.x", 1, 5, nums(1)), signed("b.x", 1, 9, nums(2))
	c, _ := cache.Put(api.Cache{}, a, "x", 10)
	c, _ = cache.Deny(c, q("d.x", 8), "x", 5, 10)
	c, _ = cache.Put(c, b, ".", 10)
	for now, want := range map[int][]api.Signed{10: {a, b}, 14: {a, b}, 15: {b}, 18: {b}, 19: nil, 20000000: nil} {
		l, e := cache.Known(c, now)
		x, f := cache.Clean(c, now)
		if e != api.OK || f != api.OK || len(l) != len(want) || len(want) > 0 && !reflect.DeepEqual(l, want) || len(x.List) < len(l) || now > 18 && len(x.List) > 0 {
			t.Error(now, l, x)
		}
	}
	c, _ = cache.Put(c, a, "x", 11)
	if c.List[0].Until != 16 || len(c.List) != 3 {
		t.Error("in its place", c)
	}
	for typ := 1; typ <= 8; typ++ {
		d, e := cache.Deny(api.Cache{}, q("d.x", typ), "x", 100000, 20000000)
		if got, ok, f := cache.Get(d, q("d.x", typ), 20000000); e != api.OK || f != api.OK || !ok || got.Until != 20100000 || got.Signed.Set.Life != 100000 || !cache.Valid(d) {
			t.Error(typ, e, f)
		}
	}
	d, _ := cache.Deny(api.Cache{}, q("d.x", 1), "x", 0, 10)
	if len(d.List) != 1 || d.List[0].Until != 11 {
		t.Error(d)
	}
	for until, good := range map[int]bool{0: false, 1: true, 20100001: true, 20100002: false} {
		if cache.Valid(api.Cache{List: []api.Entry{{Signed: a, Zone: "x", Until: until}}}) != good {
			t.Error(until)
		}
	}
	for i, s := range []struct {
		set  api.Set
		good bool
	}{{api.Set{Name: "d.x", Type: 0}, false}, {api.Set{Name: "d.x", Type: 1}, true}, {api.Set{Name: "d.x", Type: 8, Life: 100000}, true}, {api.Set{Name: "d.x", Type: 9}, false}, {api.Set{Name: "d.x", Type: 1, Life: -1}, false}, {api.Set{Name: "d.x", Type: 1, Life: 100001}, false}} {
		if cache.Valid(api.Cache{List: []api.Entry{{Signed: api.Signed{Set: s.set}, Zone: "x", Until: 5}}}) != s.good {
			t.Error(i)
		}
	}
	for i, x := range []api.Question{q("d.x", 0), q("d.x", 9), q("D", 1)} {
		_, ok, e := cache.Get(c, x, 5)
		if ok || e != api.ErrArg {
			t.Error(i, e)
		}
	}
	if _, ok, e := cache.Get(c, q("a.x", 1), 20000001); ok || e != api.ErrArg {
		t.Error(e)
	}
	var full api.Cache
	for i := range 401 {
		full.List = append(full.List, api.Entry{Signed: signed("n"+strconv.Itoa(i), 1, 5, nums(1)), Zone: ".", Until: 5})
	}
	if cache.Valid(full) || !cache.Valid(api.Cache{List: full.List[:400]}) {
		t.Error("400 entries")
	}
	got, _, _ := cache.Get(c, q("a.x", 1), 12)
	got.Signed.Set.Data[0].N = 99
	if c.List[0].Signed.Set.Data[0].N == 99 || a.Set.Data[0].N == 99 {
		t.Error("shared memory")
	}
}

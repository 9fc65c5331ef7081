package zone_test

import (
	"fmt"
	"reflect"
	"slices"
	"testing"

	"nameplan/api"
	"nameplan/name"
	"nameplan/sample"
	"nameplan/value"
	"nameplan/zone"
)

var text, nums, signed = sample.Text, sample.Nums, sample.Signed

func example() api.Zone {
	return api.Zone{Apex: "x", Sets: []api.Signed{signed("x", 2, 9, text("a.ns")), signed("x", 4, 9, nums(1, 60)),
		signed("w.x", 1, 9, nums(7)), signed("y.x", 2, 9, text("b.y.x")), signed("b.y.x", 1, 9, nums(9))}}
}

func sig(key, from, until int) api.Sig {
	return api.Sig{Zone: "x", Key: key, Alg: 1, From: from, Until: until}
}

func withSigs(s api.Signed, l ...api.Sig) api.Signed {
	s.Sigs = l
	return s
}

// P6.1: the example of the document.
func TestExample(t *testing.T) {
	z := example()
	if !zone.Valid(z) {
		t.Fatal("not valid")
	}
	if l, e := zone.Names(z); e != api.OK || !slices.Equal(l, []string{"x", "w.x", "y.x"}) {
		t.Error(l, e)
	}
	for s, cut := range map[string]string{"b.y.x": "y.x", "y.x": "y.x", "x": "", "w.x": "", "q.q.x": "", "q.b.y.x": "y.x"} {
		if c, ok, e := zone.Cut(z, s); c != cut || ok != (cut != "") || e != api.OK {
			t.Error(s, c, ok, e)
		}
	}
	if c, ok, e := zone.Cut(z, "y"); c != "" || ok || e != api.ErrCut {
		t.Error(c, ok, e)
	}
	if n, e := zone.Serial(z); n != 1 || e != api.OK {
		t.Error(n, e)
	}
	y, e := zone.Drop(z, api.Question{Name: "y.x", Type: 2})
	if l, _ := zone.Names(y); e != api.OK || !slices.Equal(l, []string{"x", "w.x", "b.y.x"}) {
		t.Error(l, e)
	}
}

// P6.1: errors of Put and Drop.
func TestErrors(t *testing.T) {
	z := sample.With(example(), signed("q.x", 3, 1, text("w.x")), signed("y.x", 6, 1, nums(1, 1)), signed("*.x", 5, 1, text("t")))
	many := make([]api.Sig, 7)
	for i := range many {
		many[i] = sig(i+1, 0, 1)
	}
	addr := signed("v.x", 1, 1, nums(1))
	for i, x := range []struct {
		s api.Signed
		e api.Errno
	}{
		{signed("v.x", 1, 1), api.ErrArg}, {withSigs(signed("v", 1, 1, nums(1)), sig(0, 0, 0)), api.ErrSign}, {withSigs(addr, many...), api.ErrSign}, {withSigs(addr, many[:6]...), api.OK},
		{withSigs(addr, sig(1, -1, 0)), api.ErrSign}, {withSigs(addr, sig(1, 2, 1)), api.ErrSign}, {withSigs(addr, sig(1, 0, 20000001)), api.ErrSign}, {withSigs(addr, sig(1, 20000000, 20000000)), api.OK},
		{withSigs(addr, sig(1, 0, 1), sig(2, 0, 2)), api.ErrSign}, {withSigs(addr, sig(2, 0, 1), sig(1, 0, 1)), api.ErrSign}, {withSigs(addr, sig(2, 0, 1), sig(2, 0, 1)), api.ErrSign}, {withSigs(addr, api.Sig{Zone: ".", Key: 1, Alg: 1}), api.ErrSign}, {withSigs(addr, api.Sig{Zone: "x", Key: 1, Alg: 4}), api.ErrSign}, {withSigs(addr, sig(1000001, 0, 1)), api.ErrSign},
		{signed("v", 1, 1, nums(1)), api.ErrCut}, {signed(".", 4, 1, nums(1)), api.ErrCut},
		{signed("x", 3, 1, text("a")), api.ErrApex}, {signed("x", 6, 1, nums(1, 1)), api.ErrApex}, {signed("w.x", 4, 1, nums(1)), api.ErrApex}, {signed("w.x", 7, 1, nums(1, 1)), api.ErrApex},
		{signed("w.x", 3, 1, text("a")), api.ErrAlias}, {signed("q.x", 1, 1, nums(1)), api.ErrAlias}, {signed("q.x", 2, 1, text("a")), api.ErrAlias}, {signed("q.x", 8, 1, api.Datum{Text: "x", N: 2}), api.OK}, {signed("q.x", 3, 1, text("a")), api.OK},
		{signed("y.x", 5, 1, text("t")), api.ErrCut}, {signed("b.y.x", 5, 1, text("t")), api.ErrCut}, {signed("b.y.x", 2, 1, text("a")), api.ErrCut}, {signed("a.y.x", 3, 1, text("a")), api.ErrCut}, {signed("w.x", 6, 1, nums(1, 1)), api.ErrCut}, {signed("b.y.x", 8, 1, api.Datum{Text: "x", N: 2}), api.ErrCut},
		{signed("y.x", 8, 1, api.Datum{Text: "x", N: 2}), api.OK}, {signed("y.x", 1, 1, nums(1)), api.OK}, {signed("w.x", 2, 1, text("a")), api.OK},
		{withSigs(signed("b.y.x", 1, 1, nums(1)), sig(1, 0, 1)), api.ErrSign}, {withSigs(signed("y.x", 2, 1, text("a")), sig(1, 0, 1)), api.ErrSign}, {withSigs(signed("y.x", 6, 1, nums(1, 1)), sig(1, 0, 1)), api.OK},
	} {
		if out, e := zone.Put(z, x.s); e != x.e || (e != api.OK) != (out.Apex == "") {
			t.Errorf("put %d: %v", i, e)
		}
	}
	signedAddr := sample.With(example(), withSigs(signed("a.b.x", 1, 1, nums(1)), sig(1, 0, 1)))
	if _, e := zone.Put(signedAddr, signed("b.x", 2, 1, text("a"))); e != api.ErrSign {
		t.Error(e)
	}
	for q, want := range map[api.Question]api.Errno{{Name: "x", Type: 2}: api.ErrApex, {Name: "x", Type: 4}: api.ErrApex, {Name: "x", Type: 1}: api.ErrNone, {Name: "", Type: 1}: api.ErrArg, {Name: "x", Type: 9}: api.ErrArg, {Name: "y.x", Type: 2}: api.ErrCut, {Name: "y.x", Type: 6}: api.OK, {Name: "y", Type: 6}: api.ErrNone} {
		if out, e := zone.Drop(z, q); e != want || (e != api.OK) != (out.Apex == "") {
			t.Error(q, e)
		}
	}
}

// P1, P6.7: damaged zones are refused by all functions.
func TestDamage(t *testing.T) {
	z := example()
	change := func(f func(z *api.Zone)) api.Zone { c := value.Zone(z); f(&c); return c }
	bad := []api.Zone{{}, {Apex: "*.x", Sets: z.Sets},
		change(func(c *api.Zone) { c.Sets[3].Set.Data = nil }), change(func(c *api.Zone) { c.Apex = "w.x" }), change(func(c *api.Zone) { c.Apex = "." }),
		change(func(c *api.Zone) { c.Sets = append(c.Sets, signed("z.y", 1, 1, nums(1))) }),
		change(func(c *api.Zone) { c.Sets[0].Sigs = []api.Sig{{}} })}
	for i := range z.Sets {
		bad = append(bad, change(func(c *api.Zone) { c.Sets = slices.Insert(c.Sets, i, c.Sets[i]) }))
		if i > 0 {
			bad = append(bad, change(func(c *api.Zone) { c.Sets[i], c.Sets[i-1] = c.Sets[i-1], c.Sets[i] }))
		}
		if i < 2 {
			bad = append(bad, change(func(c *api.Zone) { c.Sets = slices.Delete(c.Sets, i, i+1) }))
		}
	}
	q := api.Question{Name: "x", Type: 4}
	for i, z := range bad {
		_, ok, e := zone.Find(z, q)
		p, e2 := zone.Put(z, signed("x", 4, 1, nums(1)))
		d, e3 := zone.Drop(z, q)
		c, cut, e4 := zone.Cut(z, "x")
		l, e5 := zone.Names(z)
		n, e6 := zone.Serial(z)
		if zone.Valid(z) || ok || cut || c != "" || n != 0 || len(l)+len(p.Sets)+len(d.Sets) > 0 || fmt.Sprint(e, e2, e3, e4, e5, e6) != fmt.Sprint(api.ErrArg, api.ErrArg, api.ErrArg, api.ErrArg, api.ErrArg, api.ErrArg) {
			t.Errorf("bad %d: %v %v %v %v %v %v", i, e, e2, e3, e4, e5, e6)
		}
	}
}

func questions(z api.Zone) []api.Question {
	var out []api.Question
	for _, s := range z.Sets {
		for typ := 1; typ <= 8; typ++ {
			out = append(out, api.Question{Name: s.Set.Name, Type: typ})
		}
	}
	return out
}

func same(t *testing.T, a, b api.Zone, but api.Question) {
	for _, q := range append(questions(a), questions(b)...) {
		s, ok, _ := zone.Find(a, q)
		r, ok2, _ := zone.Find(b, q)
		if q != but && (ok != ok2 || !value.SameSigned(s, r)) {
			t.Errorf("%v: %v %v", q, s, r)
		}
	}
}

// P6.2, P6.3: put and drop.
func TestPutDrop(t *testing.T) {
	d := sample.New(7)
	for range 60 {
		z := d.Zone("x")
		s := api.Signed{Set: d.Set(sample.Below([]string{"", "a", "b.c", "d"}[d.Roll(4)], "x"), 1+d.Roll(8))}
		q := api.Question{Name: s.Set.Name, Type: s.Set.Type}
		if p, e := zone.Put(z, s); e == api.OK {
			if f, ok, _ := zone.Find(p, q); !ok || !value.SameSigned(f, s) || !zone.Valid(p) {
				t.Errorf("%v: %v", s, f)
			}
			same(t, z, p, q)
		}
		for _, q := range questions(z) {
			s, _, _ := zone.Find(z, q)
			p, e := zone.Drop(z, q)
			if e != api.OK {
				continue
			}
			if _, ok, _ := zone.Find(p, q); ok || !zone.Valid(p) {
				t.Errorf("%v is still there", q)
			}
			same(t, z, p, q)
			if back, e := zone.Put(p, s); e != api.OK || !reflect.DeepEqual(back, z) {
				t.Errorf("%v is put again: %v", q, e)
			}
		}
	}
}

// P6.4, P6.5, P6.8: cuts, names, and zones without signatures.
func TestCutsAndNames(t *testing.T) {
	d := sample.New(8)
	for range 100 {
		z := d.Zone("x")
		names, _ := zone.Names(z)
		if names[0] != "x" {
			t.Error(names)
		}
		own := map[string]bool{}
		for _, s := range z.Sets {
			cut, ok, e := zone.Cut(z, s.Set.Name)
			if e != api.OK {
				t.Fatal(e)
			}
			for p := s.Set.Name; p != "x"; p, _ = name.Parent(p) {
				_, has, _ := zone.Find(z, api.Question{Name: p, Type: 2})
				if has != (ok && p == cut) {
					t.Errorf("%v: cut %v, servers at %v", s.Set.Name, cut, p)
				}
			}
			if !ok || s.Set.Name == cut {
				own[s.Set.Name] = true
			}
		}
		for i, n := range names {
			if i > 0 {
				if c, _ := name.Compare(names[i-1], n); c != -1 {
					t.Error(names)
				}
			}
			if !own[n] {
				t.Errorf("%v is no name of %v", n, z)
			}
			delete(own, n)
		}
		if len(own) > 0 {
			t.Error(own)
		}
		bare := value.Zone(z)
		for i, s := range z.Sets {
			if c, ok, _ := zone.Cut(z, s.Set.Name); !ok || c == s.Set.Name && s.Set.Type > 2 {
				z.Sets[i].Sigs = []api.Sig{sig(1, 0, 5)}
			}
		}
		again, _ := zone.Names(bare)
		if !zone.Valid(z) || !zone.Valid(bare) || !slices.Equal(names, again) {
			t.Error("signatures change a zone")
		}
	}
}

// P6.6: the order in which two sets are put does not matter.
func TestOrder(t *testing.T) {
	d := sample.New(9)
	for range 300 {
		z := d.Zone("x")
		a, b := api.Signed{Set: d.Set("a.x", 1+d.Roll(8))}, api.Signed{Set: d.Set([]string{"a.x", "b.x", "c.a.x"}[d.Roll(3)], 1+d.Roll(8))}
		if a.Set.Name == b.Set.Name && a.Set.Type == b.Set.Type {
			continue
		}
		za, e1 := zone.Put(z, a)
		zb, e2 := zone.Put(z, b)
		if e1 != api.OK || e2 != api.OK {
			continue
		}
		zab, e1 := zone.Put(za, b)
		zba, e2 := zone.Put(zb, a)
		if e1 == api.OK && e2 == api.OK && !reflect.DeepEqual(zab, zba) {
			t.Errorf("%v %v", a, b)
		}
	}
}

// P6.1: each condition of a valid zone by itself.
func TestConditions(t *testing.T) {
	start, server := signed("x", 4, 9, nums(1, 60)), signed("x", 2, 9, text("a"))
	next := func(n string) api.Signed { return signed(n, 8, 1, api.Datum{Text: "x", N: 2}) }
	for i, c := range []struct {
		good bool
		l    []api.Signed
	}{
		{true, []api.Signed{server, start}}, {false, nil}, {false, []api.Signed{server}}, {false, []api.Signed{start}}, {false, []api.Signed{signed("a.x", 2, 1, text("a")), signed("a.x", 4, 1, nums(1))}},
		{false, []api.Signed{server, start, signed("x", 6, 1, nums(1, 1))}}, {true, []api.Signed{server, start, signed("x", 7, 1, nums(1, 1))}}, {true, []api.Signed{signed("x", 1, 1, nums(1)), server, start, signed("x", 5, 1, text("t"))}},
		{false, []api.Signed{server, signed("x", 3, 1, text("a")), start}}, {false, []api.Signed{server, start, signed("a.x", 4, 1, nums(1))}}, {false, []api.Signed{server, start, signed("a.x", 7, 1, nums(1, 1))}}, {false, []api.Signed{server, start, signed("a.x", 6, 1, nums(1, 1))}},
		{true, []api.Signed{server, start, signed("a.x", 3, 1, text("a")), next("a.x")}}, {false, []api.Signed{server, start, signed("a.x", 1, 1, nums(1)), signed("a.x", 3, 1, text("a"))}}, {false, []api.Signed{server, start, signed("a.x", 3, 1, text("a")), signed("a.x", 5, 1, text("a"))}},
		{true, []api.Signed{server, start, signed("a.x", 1, 1, nums(1)), signed("a.x", 2, 1, text("a")), signed("a.x", 6, 1, nums(1, 1)), next("a.x"), signed("b.a.x", 1, 1, nums(1))}}, {false, []api.Signed{server, start, signed("a.x", 2, 1, text("a")), signed("a.x", 5, 1, text("a"))}}, {false, []api.Signed{server, start, signed("a.x", 2, 1, text("a")), signed("b.a.x", 5, 1, text("a"))}}, {false, []api.Signed{server, start, signed("a.x", 2, 1, text("a")), signed("b.a.x", 2, 1, text("a"))}}, {false, []api.Signed{server, start, signed("a.x", 2, 1, text("a")), next("b.a.x")}},
		{true, []api.Signed{withSigs(server, sig(1, 0, 1)), start}}, {false, []api.Signed{withSigs(server, sig(0, 0, 1)), start}}, {false, []api.Signed{server, start, withSigs(signed("a.x", 2, 1, text("a")), sig(1, 0, 1))}}, {false, []api.Signed{server, start, withSigs(signed("a.x", 1, 1, nums(1)), sig(1, 0, 1)), signed("a.x", 2, 1, text("a"))}}, {true, []api.Signed{server, start, signed("a.x", 2, 1, text("a")), withSigs(next("a.x"), sig(1, 0, 1))}},
		{true, []api.Signed{server, start, signed("a.x", 2, 1, text("a")), signed("b.a.x", 1, 1, nums(1)), signed("b.x", 5, 1, text("t"))}},
	} {
		if zone.Valid(api.Zone{Apex: "x", Sets: c.l}) != c.good {
			t.Error(i, c.l)
		}
	}
	if zone.Valid(api.Zone{Apex: "*.x", Sets: []api.Signed{server, start}}) || zone.Valid(api.Zone{Apex: "", Sets: []api.Signed{server, start}}) {
		t.Error("the apex")
	}
	z := example()
	for _, x := range []api.Question{{Name: "x", Type: 0}, {Name: "x", Type: 9}, {Name: "X", Type: 1}} {
		_, ok, e := zone.Find(z, x)
		_, f := zone.Drop(z, x)
		if ok || e != api.ErrArg || f != e {
			t.Error(x, e, f)
		}
	}
	for _, s := range []string{"", "a..x", "X"} {
		if c, ok, e := zone.Cut(z, s); c != "" || ok || e != api.ErrArg {
			t.Error(s, e)
		}
	}
	key := sample.With(z, signed("x", 7, 1, nums(1, 1)), signed("x", 1, 1, nums(1)))
	for typ := 1; typ <= 7; typ += 6 {
		if out, e := zone.Drop(key, api.Question{Name: "x", Type: typ}); e != api.OK || len(out.Sets) != len(key.Sets)-1 {
			t.Error(typ, e)
		}
	}
}

// P6.1: at most 20000 sets.
func TestLimit(t *testing.T) {
	z := sample.Bare("x", 1, "a")
	for i := range 19998 {
		z.Sets = append(z.Sets, signed(fmt.Sprint("n", 100000+i, ".x"), 1, 1, nums(1)))
	}
	more := api.Zone{Apex: "x", Sets: append(slices.Clone(z.Sets), signed("o.x", 1, 1, nums(1)))}
	less := api.Zone{Apex: "x", Sets: z.Sets[:19999]}
	if !zone.Valid(z) || !zone.Valid(less) || zone.Valid(more) {
		t.Error("valid")
	}
	_, e := zone.Put(z, signed("o.x", 1, 1, nums(1)))
	_, f := zone.Put(z, signed("n100000.x", 1, 1, nums(2)))
	full, g := zone.Put(less, signed("o.x", 1, 1, nums(1)))
	if e != api.ErrLimit || f != api.OK || g != api.OK || len(full.Sets) != 20000 {
		t.Error(e, f, g)
	}
}

package update_test

import (
	"reflect"
	"slices"
	"testing"

	"nameplan/api"
	"nameplan/sample"
	"nameplan/update"
	"nameplan/value"
	"nameplan/zone"
)

var text, nums, signed = sample.Text, sample.Nums, sample.Signed

func set(n string, typ, life int, d ...api.Datum) api.Set { return signed(n, typ, life, d...).Set }

func example() api.Zone {
	z := sample.With(sample.Bare("x", 65535, "a.ns"), signed("w.x", 1, 9, nums(7)))
	return z
}

func changes(l ...api.Change) api.Update { return api.Update{Changes: l} }

// P12.1: the example of the document, and errors.
func TestExample(t *testing.T) {
	u := api.Update{Needs: []api.Need{{Kind: 3, Set: set("w.x", 1, 0)}}, Changes: []api.Change{{Kind: 1, Set: set("w.x", 1, 5, nums(3))}}}
	want := sample.With(sample.Bare("x", 0, "a.ns"), signed("w.x", 1, 5, nums(3), nums(7)))
	if z, e := update.Apply(example(), u); e != api.OK || !reflect.DeepEqual(z, want) {
		t.Error(z, e)
	}
	signedZone := example()
	signedZone.Sets[0].Sigs = []api.Sig{{Zone: "x", Key: 1, Alg: 1}}
	chain := sample.With(example(), signed("x", 8, 1, api.Datum{Text: "x", N: 256}))
	many := slices.Repeat([]api.Change{{Kind: 4, Set: set("q.x", 0, 0)}}, 21)
	nine := set("w.x", 1, 1, nums(11), nums(12), nums(13), nums(14), nums(15), nums(16), nums(17), nums(18))
	for i, c := range []struct {
		z api.Zone
		u api.Update
		e api.Errno
	}{
		{api.Zone{}, changes(), api.ErrArg}, {example(), changes(many...), api.ErrArg}, {example(), changes(many[:20]...), api.OK}, {example(), api.Update{Needs: make([]api.Need, 21)}, api.ErrArg},
		{example(), changes(api.Change{Kind: 0, Set: set("x", 1, 1, nums(1))}), api.ErrArg}, {example(), changes(api.Change{Kind: 5, Set: set("x", 1, 1, nums(1))}), api.ErrArg}, {example(), changes(api.Change{Kind: 1, Set: set("x", 1, 1)}), api.ErrArg},
		{example(), changes(api.Change{Kind: 1, Set: set("x", 8, 1, api.Datum{Text: "x", N: 2})}), api.ErrArg}, {example(), changes(api.Change{Kind: 3, Set: set("x", 9, 1)}), api.ErrArg}, {example(), changes(api.Change{Kind: 4, Set: set("X", 1, 1)}), api.ErrArg},
		{example(), api.Update{Needs: []api.Need{{Kind: 6, Set: set("x", 1, 1)}}}, api.ErrArg}, {example(), api.Update{Needs: []api.Need{{Kind: 3, Set: set("x", 0, 1)}}}, api.ErrArg}, {example(), api.Update{Needs: []api.Need{{Kind: 5, Set: set("x", 1, 1)}}}, api.ErrArg},
		{signedZone, changes(api.Change{Kind: 4, Set: set("y", 0, 0)}), api.ErrKind}, {chain, changes(), api.ErrKind},
		{example(), api.Update{Needs: []api.Need{{Kind: 1, Set: set("q.x", 1, 1)}}, Changes: []api.Change{{Kind: 4, Set: set("y", 0, 0)}}}, api.ErrCut}, {example(), api.Update{Needs: []api.Need{{Kind: 2, Set: set("y", 1, 1)}}}, api.ErrCut},
		{example(), api.Update{Needs: []api.Need{{Kind: 1, Set: set("q.x", 1, 1)}}, Changes: []api.Change{{Kind: 4, Set: set("x", 0, 0)}}}, api.ErrNeed},
		{example(), changes(api.Change{Kind: 4, Set: set("x", 0, 0)}), api.ErrState}, {example(), changes(api.Change{Kind: 2, Set: set("x", 2, 1, text("a.ns"))}), api.ErrState}, {example(), changes(api.Change{Kind: 3, Set: set("x", 4, 0)}), api.ErrState},
		{example(), changes(api.Change{Kind: 1, Set: set("w.x", 3, 1, text("a"))}), api.ErrState}, {example(), changes(api.Change{Kind: 1, Set: nine}), api.ErrState}, {example(), changes(api.Change{Kind: 1, Set: set("w.x", 4, 1, nums(1))}), api.ErrState},
		{example(), changes(api.Change{Kind: 1, Set: set("x", 2, 1, text("b"))}, api.Change{Kind: 2, Set: set("x", 2, 1, text("a.ns"))}), api.OK},
	} {
		if z, e := update.Apply(c.z, c.u); e != c.e || (e != api.OK) != (z.Apex == "") {
			t.Error(i, e)
		}
	}
	alias := sample.With(example(), signed("q.x", 3, 1, text("a")))
	z, e := update.Apply(alias, changes(api.Change{Kind: 1, Set: set("q.x", 3, 2, text("b"))}, api.Change{Kind: 1, Set: set("x", 4, 7, nums(5))}))
	if n, _ := zone.Serial(z); e != api.OK || n != 5 {
		t.Error(z, e)
	}
	if s, _, _ := zone.Find(z, api.Question{Name: "q.x", Type: 3}); !reflect.DeepEqual(s, signed("q.x", 3, 2, text("b"))) {
		t.Error(s)
	}
}

// P12.1, P12.2: prerequisites.
func TestNeeds(t *testing.T) {
	z := sample.With(example(), signed("a.b.x", 5, 1, text("t")))
	for i, c := range []struct {
		n    api.Need
		want bool
	}{
		{api.Need{Kind: 1, Set: set("w.x", 0, 0)}, true}, {api.Need{Kind: 1, Set: set("b.x", 0, 0)}, false}, {api.Need{Kind: 2, Set: set("w.x", 0, 0)}, false}, {api.Need{Kind: 2, Set: set("b.x", 0, 0)}, true},
		{api.Need{Kind: 3, Set: set("w.x", 1, 0)}, true}, {api.Need{Kind: 3, Set: set("w.x", 2, 0)}, false}, {api.Need{Kind: 4, Set: set("w.x", 1, 0)}, false}, {api.Need{Kind: 4, Set: set("w.x", 2, 0)}, true},
		{api.Need{Kind: 5, Set: set("w.x", 1, 77, nums(7))}, true}, {api.Need{Kind: 5, Set: set("w.x", 1, 9, nums(8))}, false}, {api.Need{Kind: 5, Set: set("w.x", 1, 9, nums(7), nums(8))}, false}, {api.Need{Kind: 5, Set: set("v.x", 1, 9, nums(7))}, false},
	} {
		ok, e := update.Holds(z, c.n)
		out, f := update.Apply(z, api.Update{Needs: []api.Need{c.n}, Changes: []api.Change{{Kind: 1, Set: set("n.x", 1, 1, nums(1))}}})
		if ok != c.want || e != api.OK || (f == api.OK) != c.want || !c.want && (f != api.ErrNeed || out.Apex != "") {
			t.Error(i, ok, e, f)
		}
	}
	for want, n := range map[api.Errno]api.Need{api.ErrArg: {Kind: 0, Set: set("x", 1, 1)}, api.ErrCut: {Kind: 2, Set: set("y", 1, 1)}} {
		if ok, e := update.Holds(z, n); ok || e != want {
			t.Error(n, ok, e)
		}
	}
}

func arbitrary(d *sample.Dice) api.Change {
	typ := 1 + d.Roll(5)
	return api.Change{Kind: 1 + d.Roll(4), Set: d.Set(sample.Below([]string{"", "a", "b", "c.b", "*"}[d.Roll(5)], "x"), typ)}
}

// uncounted returns the sets of a zone, with the serial number 0.
func uncounted(z api.Zone) api.Zone {
	z = value.Zone(z)
	for _, s := range z.Sets {
		if s.Set.Type == 4 {
			s.Set.Data[0].N = 0
		}
	}
	return z
}

// P12.3 to P12.7: arbitrary changes.
func TestLaws(t *testing.T) {
	d := sample.New(16)
	for range 300 {
		z := d.Zone("x", 1, 2, 3, 5)
		a, b := arbitrary(d), arbitrary(d)
		za, e := update.Apply(z, changes(a))
		if e != api.OK {
			continue
		}
		q := api.Question{Name: a.Set.Name, Type: a.Set.Type}
		_, had, _ := zone.Find(z, q)
		now, has, _ := zone.Find(za, q)
		n, _ := zone.Serial(z)
		m, _ := zone.Serial(za)
		start, _, _ := zone.Find(z, api.Question{Name: "x", Type: 4})
		start2, _, _ := zone.Find(za, api.Question{Name: "x", Type: 4})
		start2.Set.Data[0].N = n
		changed := !value.SameZone(uncounted(z), uncounted(za))
		if a.Set.Type != 4 && value.SameSigned(start, start2) && m != (n+map[bool]int{true: 1}[changed])%65536 {
			t.Error("serial", n, m, changed)
		}
		for _, s := range za.Sets {
			if len(s.Sigs) > 0 || s.Set.Type == 8 {
				t.Error(s)
			}
		}
		switch a.Kind {
		case 1:
			for _, x := range a.Set.Data {
				if !has || !slices.Contains(now.Set.Data, x) || now.Set.Life != a.Set.Life {
					t.Error("added", a.Set, now)
				}
			}
			back, e := update.Apply(za, changes(api.Change{Kind: 2, Set: a.Set}))
			if !had && (e != api.OK || !value.SameZone(uncounted(back), uncounted(z))) {
				t.Error("added and taken", a.Set, e)
			}
		case 2:
			for _, x := range a.Set.Data {
				if slices.Contains(now.Set.Data, x) {
					t.Error("taken", a.Set, now)
				}
			}
		case 3:
			if has {
				t.Error(now)
			}
		}
		zab, e1 := update.Apply(za, changes(b))
		both, e2 := update.Apply(z, changes(a, b))
		if (e1 == api.OK) != (e2 == api.OK) || !value.SameZone(uncounted(zab), uncounted(both)) {
			t.Error("parts", a, b, e1, e2)
		}
	}
}

// P12.1: changes of sets and names, and limits.
func TestChanges(t *testing.T) {
	z := sample.With(example(), signed("w.x", 5, 9, text("t")), signed("v.x", 1, 9, nums(1)), signed("a.w.x", 1, 9, nums(2)))
	names := func(z api.Zone) []api.Question {
		var out []api.Question
		for _, s := range z.Sets {
			out = append(out, api.Question{Name: s.Set.Name, Type: s.Set.Type})
		}
		return out
	}
	x2, x4, v1, w1, w5, a1 := api.Question{Name: "x", Type: 2}, api.Question{Name: "x", Type: 4}, api.Question{Name: "v.x", Type: 1}, api.Question{Name: "w.x", Type: 1}, api.Question{Name: "w.x", Type: 5}, api.Question{Name: "a.w.x", Type: 1}
	for i, c := range []struct {
		c    api.Change
		want []api.Question
	}{
		{api.Change{Kind: 3, Set: set("w.x", 1, 0)}, []api.Question{x2, x4, v1, w5, a1}}, {api.Change{Kind: 3, Set: set("w.x", 2, 0)}, []api.Question{x2, x4, v1, w1, w5, a1}}, {api.Change{Kind: 4, Set: set("w.x", 0, 0)}, []api.Question{x2, x4, v1, a1}}, {api.Change{Kind: 4, Set: set("q.x", 0, 0)}, []api.Question{x2, x4, v1, w1, w5, a1}},
		{api.Change{Kind: 2, Set: set("w.x", 1, 0, nums(7))}, []api.Question{x2, x4, v1, w5, a1}}, {api.Change{Kind: 2, Set: set("w.x", 1, 0, nums(8))}, []api.Question{x2, x4, v1, w1, w5, a1}}, {api.Change{Kind: 2, Set: set("u.x", 1, 0, nums(8))}, []api.Question{x2, x4, v1, w1, w5, a1}},
	} {
		out, e := update.Apply(z, changes(c.c))
		n, _ := zone.Serial(out)
		if e != api.OK || !slices.Equal(names(out), c.want) || (n == 0) != (len(c.want) < 6) {
			t.Error(i, names(out), n, e)
		}
	}
	both := changes(api.Change{Kind: 1, Set: set("w.x", 1, 9, nums(7), nums(9))})
	if out, e := update.Apply(z, both); e != api.OK || !reflect.DeepEqual(out.Sets[3].Set.Data, []api.Datum{nums(7), nums(9)}) {
		t.Error(out, e)
	}
	need := api.Need{Kind: 4, Set: set("w.x", 8, 0)}
	for n, want := range map[int]api.Errno{20: api.OK, 21: api.ErrArg} {
		_, e := update.Apply(z, api.Update{Needs: slices.Repeat([]api.Need{need}, n)})
		_, f := update.Apply(z, changes(slices.Repeat([]api.Change{{Kind: 3, Set: set("w.x", 8, 0)}}, n)...))
		if e != want || f != want {
			t.Error(n, e, f)
		}
	}
	for i, n := range []api.Need{{Kind: 3, Set: set("X", 1, 0)}, {Kind: 4, Set: set("x", 9, 0)}, {Kind: 1, Set: set("", 1, 0)}, {Kind: 2, Set: set("X", 1, 0)}} {
		if ok, e := update.Holds(z, n); ok || e != api.ErrArg {
			t.Error(i, e)
		}
	}
	for i, c := range []api.Change{{Kind: 3, Set: set("X", 1, 0)}, {Kind: 3, Set: set("x", 0, 0)}, {Kind: 2, Set: set("w.x", 8, 1, api.Datum{Text: "x", N: 2})}, {Kind: 2, Set: set("w.x", 1, 1)}} {
		if out, e := update.Apply(z, changes(c)); e != api.ErrArg || out.Apex != "" {
			t.Error(i, e)
		}
	}
	if ok, e := update.Holds(api.Zone{}, need); ok || e != api.ErrArg {
		t.Error(e)
	}
	first := api.Need{Kind: 3, Set: set("x", 2, 0)}
	if ok, e := update.Holds(z, first); !ok || e != api.OK {
		t.Error("the first set", e)
	}
	first.Kind = 4
	if ok, e := update.Holds(z, first); ok || e != api.OK {
		t.Error("the first set", e)
	}
	if ok, e := update.Holds(z, api.Need{Kind: 5, Set: set("x", 2, 1, text("a.ns"))}); !ok || e != api.OK {
		t.Error("the first set", e)
	}
	if out, e := update.Apply(z, changes(api.Change{Kind: 1, Set: set("x", 2, 1, text("b"))})); e != api.OK || len(out.Sets[0].Set.Data) != 2 {
		t.Error("the first set", e)
	}
}

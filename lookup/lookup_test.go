package lookup_test

import (
	"slices"
	"testing"

	"nameplan/api"
	"nameplan/lookup"
	"nameplan/name"
	"nameplan/sample"
	"nameplan/value"
	"nameplan/zone"
)

var text, nums, signed = sample.Text, sample.Nums, sample.Signed

func next(n, to string) api.Signed { return signed(n, 8, 5, api.Datum{Text: to, N: 258}) }

func example() api.Zone {
	return sample.With(sample.Bare("x", 1, "h.x"), signed("*.x", 5, 1, text("t")), signed("a.b.x", 1, 1, nums(1)), signed("c.x", 2, 1, text("h.c.x"), text("o")), signed("h.c.x", 1, 1, nums(2)), signed("d.x", 3, 1, text("e.y")))
}

func brief(a api.Answer) []api.Question {
	var out []api.Question
	for _, s := range a.Sets {
		out = append(out, api.Question{Name: s.Set.Name, Type: s.Set.Type})
	}
	return out
}

func q(n string, typ int) api.Question { return api.Question{Name: n, Type: typ} }

func check(t *testing.T, z api.Zone, x api.Question, kind int, cut string, sets ...api.Question) {
	t.Helper()
	a, e := lookup.Answer(z, x)
	if e != api.OK || a.Kind != kind || a.Cut != cut || !slices.Equal(brief(a), sets) {
		t.Errorf("%v: %d %q %v %v", x, a.Kind, a.Cut, brief(a), e)
	}
}

// P7.1: the example of the document, without and with next sets.
func TestExample(t *testing.T) {
	z := example()
	check(t, z, q("a.b.x", 1), api.AnsData, "", q("a.b.x", 1))
	check(t, z, q("b.x", 5), api.AnsNoData, "", q("x", 4))
	check(t, z, q("q.x", 5), api.AnsWild, "", q("*.x", 5))
	check(t, z, q("q.r.x", 5), api.AnsWild, "", q("*.x", 5))
	check(t, z, q("q.x", 1), api.AnsNoData, "", q("x", 4))
	check(t, z, q("q.b.x", 5), api.AnsNoName, "", q("x", 4))
	check(t, z, q("s.c.x", 1), api.AnsRefer, "c.x", q("c.x", 2), q("h.c.x", 1))
	check(t, z, q("c.x", 2), api.AnsRefer, "c.x", q("c.x", 2), q("h.c.x", 1))
	check(t, z, q("c.x", 6), api.AnsNoData, "", q("x", 4))
	check(t, z, q("d.x", 1), api.AnsAlias, "", q("d.x", 3))
	check(t, z, q("d.x", 3), api.AnsData, "", q("d.x", 3))
	check(t, z, q("d.x", 8), api.AnsNoData, "", q("x", 4))
	check(t, z, q("a.d.x", 1), api.AnsNoName, "", q("x", 4))
	check(t, z, q("y", 1), api.AnsRefused, "")
	check(t, z, q(".", 1), api.AnsRefused, "")
	z = sample.With(z, next("x", "b.x"), next("b.x", "c.x"), next("c.x", "d.x"))
	check(t, z, q("b.x", 5), api.AnsNoData, "", q("x", 4), q("b.x", 8))
	check(t, z, q("q.x", 5), api.AnsWild, "", q("*.x", 5), q("c.x", 8))
	check(t, z, q("q.x", 1), api.AnsNoData, "", q("x", 4), q("c.x", 8), q("x", 8))
	check(t, z, q("q.b.x", 5), api.AnsNoName, "", q("x", 4), q("b.x", 8))
	check(t, z, q("s.c.x", 1), api.AnsRefer, "c.x", q("c.x", 2), q("c.x", 8), q("h.c.x", 1))
	check(t, z, q("c.x", 8), api.AnsData, "", q("c.x", 8))
	check(t, sample.With(z, signed("c.x", 6, 1, nums(1, 1))), q("s.c.x", 1), api.AnsRefer, "c.x", q("c.x", 2), q("c.x", 6), q("h.c.x", 1))
	check(t, sample.With(z, signed("c.x", 6, 1, nums(1, 1))), q("c.x", 6), api.AnsData, "", q("c.x", 6))
	check(t, sample.Bare(".", 1, "h"), q("a.b", 1), api.AnsNoName, "", q(".", 4))
	top := sample.With(sample.Bare(".", 1, "h"), signed("*", 5, 1, text("t")), next(".", "*"), next("*", "."))
	check(t, top, q("q", 5), api.AnsWild, "", q("*", 5), q("*", 8))
	check(t, top, q("a.q", 5), api.AnsWild, "", q("*", 5), q("*", 8))
	check(t, top, q("q", 1), api.AnsNoData, "", q(".", 4), q("*", 8))
	check(t, sample.With(sample.Bare(".", 1, "h"), signed("a.b", 5, 1, text("t"))), q("b", 5), api.AnsNoData, "", q(".", 4))
	for _, x := range []api.Question{{}, q("x", 0), q("x", 9), q("X", 1)} {
		if a, e := lookup.Answer(z, x); e != api.ErrArg || a.Kind != 0 || len(a.Sets) > 0 {
			t.Error(x, a, e)
		}
	}
	if a, e := lookup.Answer(api.Zone{}, q("x", 1)); e != api.ErrArg || a.Kind != 0 {
		t.Error(a, e)
	}
}

func names(apex string) []string {
	var out []string
	for _, f := range []string{"", "a", "b", "a.b", "c.b", "z.c.b", "*", "*.b", "q", "q.b", "q.a", "d", "q.d", "b.c", "c", "a.b.c"} {
		out = append(out, sample.Below(f, apex))
	}
	return out
}

func under(a, b string) bool {
	is, _ := name.Under(a, b)
	return is
}

// P7.2 to P7.7, for arbitrary zones.
func TestLaws(t *testing.T) {
	d := sample.New(10)
	for range 40 {
		z := d.Zone("x", 1, 2, 3, 5, 5, 8)
		for _, n := range names("x") {
			cut, behind, _ := zone.Cut(z, n)
			has, below := false, false
			for _, s := range z.Sets {
				has = has || s.Set.Name == n
				below = below || under(s.Set.Name, n)
			}
			noNames := 0
			for typ := 1; typ <= 8; typ++ {
				a, e := lookup.Answer(z, q(n, typ))
				s, found, _ := zone.Find(z, q(n, typ))
				if e != api.OK || found && !behind && (a.Kind != api.AnsData || !value.SameSigned(a.Sets[0], s)) {
					t.Errorf("%v %d is found, but %v", n, typ, a)
				}
				refer := behind && !(n == cut && (typ == 6 || typ == 8))
				if refer != (a.Kind == api.AnsRefer) || refer && a.Cut != cut {
					t.Errorf("%v %d: %v", n, typ, a)
				}
				for i, s := range a.Sets {
					if x, ok, _ := zone.Find(z, brief(a)[i]); !ok || !value.SameSigned(x, s) || refer && s.Set.Type == 1 && !under(s.Set.Name, cut) {
						t.Errorf("%v %d: %v is not of the zone", n, typ, s)
					}
				}
				if a.Kind == api.AnsWild {
					for _, front := range []string{"", "below."} {
						more, e := zone.Put(z, signed(front+n, 1, 1, nums(1)))
						if b, _ := lookup.Answer(more, q(n, typ)); has || e == api.OK && b.Kind == api.AnsWild {
							t.Errorf("%v %d: %v", n, typ, b)
						}
					}
				}
				if a.Kind == api.AnsNoName {
					noNames++
				}
				if !behind && (a.Kind == api.AnsData) != found {
					t.Errorf("%v %d: %v", n, typ, a)
				}
			}
			if noNames > 0 && (below || noNames != 8) {
				t.Errorf("%v: %d", n, noNames)
			}
		}
	}
}

package denial_test

import (
	"reflect"
	"slices"
	"strconv"
	"testing"

	"nameplan/api"
	"nameplan/denial"
	"nameplan/lookup"
	"nameplan/sample"
	"nameplan/value"
	"nameplan/zone"
)

var text, nums, signed = sample.Text, sample.Nums, sample.Signed

func q(n string, typ int) api.Question { return api.Question{Name: n, Type: typ} }

func next(n, to string, types int) api.Set {
	return api.Set{Name: n, Type: 8, Life: 5, Data: []api.Datum{{Text: to, N: types}}}
}

func example() api.Zone {
	return sample.With(sample.Bare("x", 1, "h.x"), signed("w.x", 1, 1, nums(1)), signed("a.y.x", 5, 1, text("t")))
}

func nexts(z api.Zone) []api.Set {
	var out []api.Set
	for _, s := range z.Sets {
		if s.Set.Type == 8 {
			out = append(out, s.Set)
		}
	}
	return out
}

// P9.1: the example of the document.
func TestExample(t *testing.T) {
	z, e := denial.Chain(example())
	l := nexts(z)
	want := []api.Set{next("x", "w.x", 4+16+256), next("w.x", "a.y.x", 2+256), next("a.y.x", "x", 32+256)}
	if e != api.OK || !reflect.DeepEqual(l, want) {
		t.Error(l, e)
	}
	for _, c := range []struct {
		i    int
		n    string
		want bool
	}{{1, "y.x", true}, {1, "x.x", true}, {1, "w.x", false}, {1, "a.y.x", false}, {0, "*.x", true}, {2, "y", false}, {2, ".", false}, {2, "z.x", true}, {2, "b.y.x", true}, {0, "y", false}} {
		if ok, e := denial.Covers("x", l[c.i], c.n); ok != c.want || e != api.OK {
			t.Error(c, ok, e)
		}
	}
	for _, c := range []struct {
		x    api.Question
		kind int
		l    []api.Set
	}{
		{q("y.x", 1), api.AnsNoData, l[1:2]}, {q("x.x", 1), api.AnsNoName, l[:2]}, {q("x.x", 1), 0, l[1:2]}, {q("w.x", 5), api.AnsNoData, l[1:2]}, {q("w.x", 1), 0, l}, {q("b.y.x", 1), 0, l[2:]},
		{q("b.y.x", 1), api.AnsNoName, l[1:]}, {q("x", 6), 0, l}, {q("y", 1), 0, l}, {q("x", 1), api.AnsNoData, l[:1]},
	} {
		if kind, e := denial.Denied("x", c.x, c.l); kind != c.kind || e != api.OK {
			t.Error(c, kind, e)
		}
	}
	p, e := denial.Proof(z, q("x.x", 1))
	if e != api.OK || len(p) != 2 || p[0].Set.Name != "w.x" || p[1].Set.Name != "x" {
		t.Error(p, e)
	}
	if p, e := denial.Proof(z, q("y.x", 1)); e != api.OK || len(p) != 1 || p[0].Set.Name != "w.x" {
		t.Error(p, e)
	}
}

// P9.1: cuts and aliases.
func TestCuts(t *testing.T) {
	cut := next("c.x", "d.x", 4+256)
	apex := next("x", "c.x", 4+16+256)
	for _, c := range []struct {
		x    api.Question
		kind int
		l    []api.Set
	}{
		{q("c.x", 1), 0, []api.Set{cut}}, {q("c.x", 6), api.AnsNoData, []api.Set{cut}}, {q("c.x", 2), 0, []api.Set{cut}}, {q("a.c.x", 1), 0, []api.Set{cut, apex}}, {q("cc.x", 1), api.AnsNoName, []api.Set{cut, apex}},
		{q("a.x", 1), 0, []api.Set{next("a.x", "b.x", 8+256)}}, {q("a.x", 1), api.AnsNoName, []api.Set{apex}}, {q("*.x", 1), api.AnsNoName, []api.Set{apex}},
		{q("a.x", 1), api.AnsNoData, []api.Set{next("x", "*.x", 4+16+256), next("*.x", "b.x", 32+256)}}, {q("a.x", 5), 0, []api.Set{next("x", "*.x", 4+16+256), next("*.x", "b.x", 32+256)}},
		{q("a.x", 1), 0, []api.Set{next("x", "y", 4+16+256)}},
		{q("c.x", 8), api.AnsNoData, []api.Set{next("c.x", "d.x", 4)}}, {q("c.x", 8), 0, []api.Set{cut}},
		{q("m.c.x", 1), 0, []api.Set{cut, next("b.x", "d.x", 2+256)}}, {q("m.c.x", 1), 0, []api.Set{next("c.x", "z.c.x", 4+256), next("b.x", "d.x", 2+256)}},
	} {
		if kind, e := denial.Denied("x", c.x, c.l); kind != c.kind || e != api.OK {
			t.Error(c, kind, e)
		}
	}
	z, _ := denial.Chain(sample.With(example(), signed("c.x", 2, 1, text("h.c.x")), signed("c.x", 1, 1, nums(1)), signed("h.c.x", 1, 1, nums(1)), signed("*.x", 5, 1, text("t"))))
	if s, _, _ := zone.Find(z, q("c.x", 8)); s.Set.Data[0] != (api.Datum{Text: "w.x", N: 4 + 256}) {
		t.Error(s)
	}
	for x, want := range map[api.Question]api.Errno{q("x", 6): api.ErrCut, q("y", 1): api.ErrCut, q("c.x", 1): api.ErrCut, q("b.c.x", 6): api.ErrCut, q("c.x", 6): api.OK, q("c.x", 8): api.ErrState, q("w.x", 1): api.ErrState, q("q.x", 5): api.ErrState, q("q.x", 1): api.OK, q("", 1): api.ErrArg, q("x", 9): api.ErrArg} {
		if l, e := denial.Proof(z, x); e != want || (e == api.OK) != (len(l) > 0) {
			t.Error(x, l, e)
		}
	}
	if l, e := denial.Proof(example(), q("q.x", 1)); e != api.ErrNone || len(l) > 0 {
		t.Error(l, e)
	}
}

// P1: arguments that are not valid.
func TestErrors(t *testing.T) {
	good := next("x", "a.x", 272)
	for i, c := range []struct {
		apex, n string
		s       api.Set
	}{{"X", "x", good}, {"*.x", "x", good}, {"x", "X", good}, {"x", "x", next("x", "a.x", 1)}, {"x", "x", next("y", "a.x", 2)}, {"x", "x", next("x", "y", 2)}, {"x", "x", api.Set{Name: "x", Type: 1, Data: []api.Datum{{N: 1}}}}} {
		if ok, e := denial.Covers(c.apex, c.s, c.n); ok || e != api.ErrArg {
			t.Error(i, ok, e)
		}
	}
	for i, c := range []struct {
		apex string
		x    api.Question
		s    api.Set
	}{{"X", q("x", 1), good}, {"*.x", q("x", 1), good}, {"x", q("x", 0), good}, {"x", q("", 1), good}, {"x", q("x", 1), api.Set{}}} {
		if k, e := denial.Denied(c.apex, c.x, []api.Set{good, c.s}); k != 0 || e != api.ErrArg {
			t.Error(i, k, e)
		}
	}
	star := next("*.x", "*.x", 258)
	if ok, e := denial.Covers("*.x", star, "*.x"); ok || e != api.ErrArg {
		t.Error(ok, e)
	}
	if l, e := denial.Proof(api.Zone{Apex: "x"}, q("x", 1)); e != api.ErrArg || len(l) > 0 {
		t.Error(l, e)
	}
	if z, e := denial.Chain(api.Zone{}); e != api.ErrArg || len(z.Sets) > 0 {
		t.Error(z, e)
	}
}

var fronts = []string{"", "a", "b", "a.b", "c.b", "z.c.b", "*", "*.b", "q", "q.b", "q.a", "d", "q.d", "b.c", "c", "a.b.c"}

// P9.2 to P9.7, for arbitrary zones.
func TestLaws(t *testing.T) {
	d := sample.New(13)
	for i := range 40 {
		apex := []string{"x", "."}[i%2]
		plain := d.Zone(apex, 1, 2, 3, 5, 5, 6)
		z, e := denial.Chain(plain)
		if e != api.OK || !zone.Valid(z) {
			t.Fatal(e)
		}
		if again, _ := denial.Chain(z); !reflect.DeepEqual(again, z) {
			t.Error("the chain of a chain")
		}
		names, _ := zone.Names(plain)
		l := nexts(z)
		for k, s := range l {
			if s.Name != names[k] || s.Data[0].Text != append(names, apex)[k+1] || len(l) != len(names) {
				t.Error(names, s)
			}
		}
		rest := slices.DeleteFunc(value.Signeds(z.Sets), func(s api.Signed) bool { return s.Set.Type == 8 })
		if !reflect.DeepEqual(rest, plain.Sets) {
			t.Error("other sets")
		}
		for _, f := range fronts {
			n := sample.Below(f, apex)
			count := 0
			for _, s := range l {
				c, _ := denial.Covers(apex, s, n)
				if c || s.Name == n {
					count++
				}
			}
			if count != 1 {
				t.Errorf("%v: %d", n, count)
			}
			for typ := 1; typ <= 8; typ++ {
				law(t, d, z, l, q(n, typ))
			}
		}
	}
}

// law checks what is denied, and proofs, for a question.
func law(t *testing.T, d *sample.Dice, z api.Zone, l []api.Set, x api.Question) {
	a, _ := lookup.Answer(z, x)
	var part []api.Set
	for _, s := range l {
		if d.Roll(3) > 0 {
			part = append(part, s)
		}
	}
	kind, _ := denial.Denied(z.Apex, x, part)
	if kind != 0 && kind != a.Kind {
		t.Errorf("%v: %d, but %d: %v", x, kind, a.Kind, part)
	}
	if more, _ := denial.Denied(z.Apex, x, append(part, l...)); kind != 0 && more != kind {
		t.Errorf("%v: %d with more sets", x, more)
	}
	if a.Kind != api.AnsNoData && a.Kind != api.AnsNoName || x.Name == z.Apex && x.Type == 6 {
		return
	}
	p, e := denial.Proof(z, x)
	var sets []api.Set
	for _, s := range p {
		sets = append(sets, s.Set)
	}
	if k, _ := denial.Denied(z.Apex, x, sets); e != api.OK || k != a.Kind {
		t.Errorf("%v: %v %d, but %d by %v", x, e, a.Kind, k, p)
	}
}

// P9.1: a zone with its chain has at most 20000 sets.
func TestLimit(t *testing.T) {
	z := sample.Bare("x", 1, "h")
	for i := range 9998 {
		z.Sets = append(z.Sets, signed("n"+strconv.Itoa(10000+i)+".x", 1, 1, nums(1)))
	}
	z.Sets = append(z.Sets, signed("n19997.x", 5, 1, text("t")))
	if c, e := denial.Chain(z); e != api.OK || len(c.Sets) != 20000 {
		t.Error(len(c.Sets), e)
	}
	z.Sets = append(z.Sets, signed("n19997.x", 8, 1, api.Datum{Text: "x", N: 2}))
	if c, e := denial.Chain(z); e != api.OK || len(c.Sets) != 20000 {
		t.Error(len(c.Sets), e)
	}
	z.Sets = slices.Insert(z.Sets, 0, signed("x", 1, 1, nums(1)))
	if c, e := denial.Chain(z); e != api.ErrLimit || len(c.Sets) > 0 {
		t.Error(len(c.Sets), e)
	}
}

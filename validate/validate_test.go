package validate_test

import (
	"reflect"
	"slices"
	"testing"

	"nameplan/api"
	"nameplan/denial"
	"nameplan/sample"
	"nameplan/sign"
	"nameplan/trust"
	"nameplan/validate"
	"nameplan/value"
	"nameplan/world"
)

var text, nums, signed = sample.Text, sample.Nums, sample.Signed

func q(n string, typ int) api.Question { return api.Question{Name: n, Type: typ} }

func by(s api.Signed, zone string, key int) api.Signed {
	g, e := sign.Sign(s.Set, zone, api.Key{N: key, Alg: 1}, 0, 100)
	if e != api.OK {
		panic(e)
	}
	s.Sigs = []api.Sig{g}
	return s
}

var anchor = signed(".", 6, 5, nums(1, 1)).Set

// tree returns a world of signed zones: the root, x and y.x.
func tree() api.World {
	root := sample.Sealed(sample.With(sample.Bare(".", 1, "a.ns"), signed("x", 2, 9, text("h.x")), signed("h.x", 1, 9, nums(3)), signed("x", 6, 9, nums(2, 1)), signed("plain", 2, 9, text("a.ns")), signed("a.ns", 1, 9, nums(1))), 0, 100, 1)
	x := sample.Sealed(sample.With(sample.Bare("x", 1, "h.x"), signed("h.x", 1, 9, nums(3)), signed("w.x", 1, 9, nums(7)), signed("l.x", 3, 9, text("w.x")), signed("k.x", 3, 9, text("q.n.x")), signed("*.x", 5, 9, text("wild")), signed("a.b.x", 5, 9, text("t"))), 0, 100, 2)
	return api.World{Hosts: sample.Hosts(), Zones: []api.Placed{{Host: 0, Zone: root}, {Host: 2, Zone: x}}, Anchor: anchor, Hints: []int{1}}
}

func all(w api.World) []api.Signed {
	var out []api.Signed
	for _, p := range w.Zones {
		out = append(out, p.Zone.Sets...)
	}
	return out
}

// P30.1: the example of the document.
func TestExample(t *testing.T) {
	rootKeys := by(signed(".", 7, 5, nums(1, 1)), ".", 1)
	anchorX := by(signed("x", 6, 5, nums(3, 1)), ".", 1)
	keysX := by(signed("x", 7, 5, nums(3, 1)), "x", 3)
	w := by(signed("w.x", 1, 5, nums(7)), "x", 3)
	bad := value.Signed(w)
	bad.Sigs[0].Sum++
	unsigned := value.Signed(w)
	unsigned.Sigs = nil
	own := by(signed("x", 6, 5, nums(3, 1)), "x", 3)
	far := value.Signed(w)
	far.Sigs[0].Zone = "y"
	for i, c := range []struct {
		known []api.Signed
		x     api.Question
		want  api.Verdict
	}{
		{[]api.Signed{rootKeys, anchorX, keysX, w}, q("w.x", 1), api.Verdict{Kind: api.Secure, Sets: []api.Signed{w}}},
		{[]api.Signed{rootKeys, anchorX, w}, q("w.x", 1), api.Verdict{Kind: api.Missing, Q: q("x", 7)}},
		{[]api.Signed{rootKeys, anchorX, keysX, bad}, q("w.x", 1), api.Verdict{Kind: api.Bogus}},
		{[]api.Signed{rootKeys, anchorX, keysX, unsigned}, q("w.x", 1), api.Verdict{Kind: api.Missing, Q: q("w.x", 1)}},
		{[]api.Signed{rootKeys, anchorX, keysX, unsigned, w}, q("w.x", 1), api.Verdict{Kind: api.Secure, Sets: []api.Signed{w}}},
		{[]api.Signed{rootKeys, own}, q("x", 6), api.Verdict{Kind: api.Bogus}}, {[]api.Signed{far}, q("w.x", 1), api.Verdict{Kind: api.Bogus}},
		{nil, q("w.x", 1), api.Verdict{Kind: api.Missing, Q: q("w.x", 1)}},
	} {
		if v, e := validate.Judge(c.known, anchor, c.x, 50, 5); e != api.OK || !reflect.DeepEqual(v, c.want) {
			t.Error(i, v, e)
		}
	}
	if v, e := validate.Judge([]api.Signed{rootKeys, anchorX, keysX, w}, anchor, q("w.x", 1), 97, 5); e != api.OK || v.Kind != api.Bogus {
		t.Error(v, e)
	}
}

// P30.1: wildcards, denials, and aliases.
func TestLinks(t *testing.T) {
	known := all(tree())
	for x, kinds := range map[api.Question][]int{q("w.x", 1): {1}, q("l.x", 1): {3, 1}, q("l.x", 3): {3}, q("q.x", 5): {5, 8}, q("q.q.x", 5): {5, 8}, q("w.x", 5): {8, 8, 8, 8, 8, 8, 8}, q("q.b.x", 5): {8, 8, 8, 8, 8, 8, 8}, q("k.x", 1): {3, 8, 8, 8, 8, 8, 8, 8}, q("k.x", 5): {3, 5, 8}, q("b.x", 5): {8, 8, 8, 8, 8, 8, 8}} {
		v, e := validate.Judge(known, anchor, x, 50, 5)
		var got []int
		for _, s := range v.Sets {
			got = append(got, s.Set.Type)
		}
		if e != api.OK || v.Kind != api.Secure || !slices.Equal(got, kinds) {
			t.Error(x, v.Kind, got, e)
		}
	}
	var chain []api.Signed
	for i := range 9 {
		chain = append(chain, by(signed(string([]byte{byte('a' + i)}), 3, 5, text(string([]byte{byte('b' + i)}))), ".", 1))
	}
	chain = append(chain, by(signed(".", 7, 5, nums(1, 1)), ".", 1), by(signed("j", 1, 5, nums(1)), ".", 1))
	if v, e := validate.Judge(chain, anchor, q("a", 1), 50, 5); e != api.ErrLoop || v.Kind != 0 {
		t.Error(v, e)
	}
	if v, e := validate.Judge(chain, anchor, q("b", 1), 50, 5); e != api.OK || v.Kind != api.Secure || len(v.Sets) != 9 {
		t.Error(v, e)
	}
	chain[7].Sigs[0].Sum++
	if v, e := validate.Judge(chain, anchor, q("a", 1), 50, 5); e != api.OK || v.Kind != api.Bogus {
		t.Error(v, e)
	}
}

// P1: errors.
func TestErrors(t *testing.T) {
	known := all(tree())
	for i, f := range []func() (api.Verdict, api.Errno){
		func() (api.Verdict, api.Errno) {
			return validate.Judge(make([]api.Signed, 1), anchor, q("x", 1), 5, 5)
		},
		func() (api.Verdict, api.Errno) {
			return validate.Judge(slices.Repeat(known, 30), anchor, q("x", 1), 5, 5)
		},
		func() (api.Verdict, api.Errno) { return validate.Judge(known, api.Set{}, q("x", 1), 5, 5) },
		func() (api.Verdict, api.Errno) { return validate.Judge(known, anchor, q("x", 9), 5, 5) },
		func() (api.Verdict, api.Errno) { return validate.Judge(known, anchor, q("x", 1), -1, 5) },
		func() (api.Verdict, api.Errno) { return validate.Judge(known, anchor, q("x", 1), 10000001, 5) },
		func() (api.Verdict, api.Errno) { return validate.Judge(known, anchor, q("x", 1), 5, 1001) },
	} {
		if v, e := f(); e != api.ErrArg || v.Kind != 0 {
			t.Error(i, e)
		}
	}
	for i, c := range []struct {
		zone string
		x    api.Question
		a    api.Answer
	}{{"", q("x", 1), api.Answer{Kind: 1}}, {"*.x", q("x", 1), api.Answer{Kind: 1}}, {"x", q("x", 9), api.Answer{Kind: 1}}, {"x", q("x", 1), api.Answer{}}, {"x", q("x", 1), api.Answer{Kind: 4}}} {
		if l, e := validate.Filter(c.zone, c.x, c.a); e != api.ErrArg || len(l) > 0 {
			t.Error(i, e)
		}
	}
}

// P30.1, P30.6, P30.7: what may be taken.
func TestFilter(t *testing.T) {
	sets := []api.Signed{signed("w.x", 1, 5, nums(7)), signed("w.x", 5, 5, text("t")), signed("*.x", 5, 5, text("t")), signed("*.y", 5, 5, text("t")), signed("w.x", 3, 5, text("t")), signed("x", 4, 5, nums(1)), signed("v.x", 8, 5, api.Datum{Text: "x", N: 2}), signed("y", 8, 5, api.Datum{Text: "y", N: 2}), signed("w.x", 2, 5, text("h.w.x"), text("o")), signed("h.w.x", 1, 5, nums(1)), signed("i.w.x", 1, 5, nums(1)), signed("o", 1, 5, nums(1)), signed("w.x", 6, 5, nums(1, 1)), signed(".", 4, 5, nums(1)), signed("w.x", 8, 5, api.Datum{Text: "x", N: 2})}
	for i, c := range []struct {
		zone string
		x    api.Question
		kind int
		cut  string
		want []int
	}{
		{"x", q("w.x", 1), 1, "", []int{0}}, {"x", q("w.x", 5), 2, "", []int{2, 6, 14}}, {".", q("w.x", 5), 2, "", []int{2, 6, 7, 14}}, {"x", q("w.x", 1), 3, "", []int{4, 6, 14}}, {"x", q("t.w.x", 1), 4, "w.x", []int{8, 9, 12, 14}}, {"x", q("t.w.x", 1), 4, "x", nil}, {"x", q("t.x", 1), 4, "w.x", nil}, {"x", q("t.x", 1), 4, "y", nil},
		{"x", q("w.x", 1), 5, "", []int{5, 6, 14}}, {".", q("w.x", 1), 6, "", []int{5, 6, 7, 13, 14}}, {"y", q("w.x", 1), 1, "", nil}, {"x", q("w.x", 1), 7, "", nil},
	} {
		a := api.Answer{Kind: c.kind, Cut: c.cut, Sets: sets}
		var want []api.Signed
		for _, k := range c.want {
			want = append(want, sets[k])
		}
		l, e := validate.Filter(c.zone, c.x, a)
		if e != api.OK || !value.SameSigneds(l, want) {
			t.Error(i, l, e)
		}
		a.Sets = l
		if again, e := validate.Filter(c.zone, c.x, a); e != api.OK || !value.SameSigneds(l, again) {
			t.Error(i, "taken again", again)
		}
	}
}

// P30.2 to P30.5: arbitrary parts of what is published.
func TestLaws(t *testing.T) {
	d := sample.New(37)
	w := tree()
	sets := all(w)
	names := []string{"x", "w.x", "l.x", "k.x", "q.x", "b.x", "q.b.x", ".", "q", "h.x", "plain", "a.ns"}
	for i := range 3000 {
		x := q(names[d.Roll(12)], 1+d.Roll(8))
		known := slices.Clone(sets)
		if i%3 > 0 {
			known = slices.DeleteFunc(known, func(api.Signed) bool { return d.Roll(4) == 0 })
		}
		v, e := validate.Judge(known, anchor, x, 50, 5)
		if e != api.OK || v.Kind == api.Bogus {
			t.Fatal(x, v, e)
		}
		if v.Kind == api.Missing && slices.ContainsFunc(known, func(s api.Signed) bool {
			return s.Set.Name == v.Q.Name && s.Set.Type == v.Q.Type && len(s.Sigs) > 0
		}) {
			t.Error(v.Q, "is known")
		}
		for _, s := range v.Sets {
			keys, _, e := trust.Path(known, anchor, s.Sigs[0].Zone, 50, 5)
			if e != api.OK || !trust.Signed(s, s.Sigs[0].Zone, keys, 50, 5) {
				t.Error(s)
			}
		}
		if v.Kind == api.Secure && x.Type != api.TypeNext {
			truth(t, w, x, v)
		}
		forged := value.Signeds(known)
		k := d.Roll(len(forged))
		for g := range forged[k].Sigs {
			forged[k].Sigs[g].Sum++
		}
		v, _ = validate.Judge(forged, anchor, x, 50, 5)
		if slices.ContainsFunc(v.Sets, func(s api.Signed) bool { return value.SameSigned(s, forged[k]) }) {
			t.Error("a forged set is secure")
		}
	}
}

// truth compares a secure verdict with the truth.
func truth(t *testing.T, w api.World, x api.Question, v api.Verdict) {
	a, e := world.Truth(w, x)
	last := v.Sets[len(v.Sets)-1]
	switch {
	case e != api.OK:
		if x.Name != "plain" {
			t.Error(x, e)
		}
	case a.Kind == api.AnsData:
		if !value.SameSigneds(a.Sets, v.Sets) {
			t.Error(x, a, v)
		}
	case a.Kind == api.AnsWild:
		if !value.SameSigneds(a.Sets, v.Sets) {
			t.Error(x, a, v)
		}
	default:
		n := x.Name
		var nexts []api.Set
		for _, s := range v.Sets {
			if s.Set.Type == api.TypeAlias {
				n = s.Set.Data[0].Text
			}
			if s.Set.Type == api.TypeNext {
				nexts = append(nexts, s.Set)
			}
		}
		if kind, _ := denial.Denied(last.Sigs[0].Zone, q(n, x.Type), nexts); kind != a.Kind {
			t.Error(x, kind, a.Kind)
		}
	}
}

// P30.1: which sets prove that a wildcard may be used, and where aliases do not count.
func TestProofs(t *testing.T) {
	rootKeys := by(signed(".", 7, 5, nums(1, 1)), ".", 1)
	anchorX := by(signed("x", 6, 5, nums(2, 1)), ".", 1)
	keysX := by(signed("x", 7, 5, nums(2, 1)), "x", 2)
	wild := by(signed("*.x", 5, 5, text("w")), "x", 2)
	next := func(n, to string, types int) api.Signed { return signed(n, 8, 5, api.Datum{Text: to, N: types}) }
	base := []api.Signed{rootKeys, anchorX, keysX, wild}
	missing := func(x api.Question) api.Verdict { return api.Verdict{Kind: api.Missing, Q: x} }
	secure := func(l ...api.Signed) api.Verdict { return api.Verdict{Kind: api.Secure, Sets: l} }
	proof := by(next("p.x", "r.x", 258), "x", 2)
	foreign := by(next("p.x", "r.x", 258), ".", 1)
	deep := by(signed("*.c.x", 5, 5, text("w")), "x", 2)
	cut := by(next("c.x", "d.x", 4+256), "x", 2)
	apex := by(next("c.x", "d.x", 4+16+256), "x", 2)
	alias := by(signed("l.x", 3, 5, text("m.x")), "x", 2)
	m := by(signed("m.x", 8, 5, api.Datum{Text: "x", N: 288}), "x", 2)
	for i, c := range []struct {
		known []api.Signed
		x     api.Question
		want  api.Verdict
	}{
		{append(base, proof), q("q.x", 5), secure(wild, proof)}, {base, q("q.x", 5), missing(q("q.x", 5))}, {append(base, foreign), q("q.x", 5), missing(q("q.x", 5))}, {append(base, next("p.x", "r.x", 258)), q("q.x", 5), missing(q("q.x", 5))}, {append(base, foreign, proof), q("q.x", 5), secure(wild, proof)}, {append(base, proof, proof), q("q.x", 5), secure(wild, proof)},
		{append(base, proof), q("s.x", 5), missing(q("s.x", 5))}, {append(base, by(next("p.x", "a.q.x", 258), "x", 2)), q("b.q.x", 5), missing(q("b.q.x", 5))}, {append(base, by(next("p.x", "x", 258), "x", 2)), q("b.q.x", 5), secure(wild, by(next("p.x", "x", 258), "x", 2))},
		{append(base, deep, cut), q("q.c.x", 5), missing(q("q.c.x", 5))}, {append(base, deep, apex), q("q.c.x", 5), secure(deep, apex)}, {append(base, cut), q("cc.x", 5), secure(wild, cut)},
		{append(base, alias), q("l.x", 8), missing(q("l.x", 8))}, {append(base, alias), q("l.x", 3), secure(alias)}, {append(base, alias), q("l.x", 1), missing(q("m.x", 1))}, {append(base, alias, m), q("l.x", 1), secure(alias, m)}, {append(base, alias, m), q("m.x", 3), secure(m)},
	} {
		if v, e := validate.Judge(c.known, anchor, c.x, 50, 5); e != api.OK || !reflect.DeepEqual(v, c.want) {
			t.Errorf("%d: %v %v", i, v, e)
		}
	}
}

// P30.1: the edges of times, and arguments.
func TestEdges(t *testing.T) {
	s := signed(".", 7, 5, nums(1, 1))
	g, _ := sign.Sign(s.Set, ".", api.Key{N: 1, Alg: 1}, 0, 20000000)
	s.Sigs = []api.Sig{g}
	x := q(".", 7)
	for _, c := range []struct {
		at, drift int
		e         api.Errno
		kind      int
	}{{0, 0, api.OK, 1}, {10000000, 1000, api.OK, 1}, {10000001, 0, api.ErrArg, 0}, {-1, 0, api.ErrArg, 0}, {5, 1001, api.ErrArg, 0}, {5, -1, api.ErrArg, 0}, {5, 6, api.OK, 2}} {
		if v, e := validate.Judge([]api.Signed{s}, anchor, x, c.at, c.drift); e != c.e || v.Kind != c.kind {
			t.Error(c, v, e)
		}
	}
	for n, want := range map[int]api.Errno{400: api.OK, 401: api.ErrArg} {
		if _, e := validate.Judge(slices.Repeat([]api.Signed{s}, n), anchor, x, 5, 0); e != want {
			t.Error(n, e)
		}
	}
	for i, a := range []api.Set{{Name: ".", Type: 6}, signed("x", 6, 5, nums(1, 1)).Set, signed(".", 7, 5, nums(1, 1)).Set} {
		if _, e := validate.Judge([]api.Signed{s}, a, x, 5, 0); e != api.ErrArg {
			t.Error(i, e)
		}
	}
	for typ, want := range map[int]api.Errno{0: api.ErrArg, 1: api.OK, 8: api.OK, 9: api.ErrArg} {
		_, e := validate.Judge([]api.Signed{s}, anchor, q("x", typ), 5, 0)
		_, f := validate.Filter("x", q("x", typ), api.Answer{Kind: 7})
		if e != want || f != want {
			t.Error(typ, e, f)
		}
	}
	if _, e := validate.Judge(nil, anchor, q("X", 1), 5, 0); e != api.ErrArg {
		t.Error(e)
	}
	v, _ := validate.Judge([]api.Signed{s}, anchor, x, 5, 0)
	l, _ := validate.Filter(".", x, api.Answer{Kind: 1, Sets: []api.Signed{s}})
	v.Sets[0].Set.Data[0].N, l[0].Set.Data[0].M = 99, 99
	if s.Set.Data[0] != nums(1, 1) {
		t.Error("shared memory")
	}
}

// P30.1: what may be taken of referrals, wildcards and denials.
func TestTaken(t *testing.T) {
	server := func(n string, l ...string) api.Signed {
		s := signed(n, 2, 5)
		for _, h := range l {
			s.Set.Data = append(s.Set.Data, text(h))
		}
		return s
	}
	addr := func(n string) api.Signed { return signed(n, 1, 5, nums(1)) }
	for i, c := range []struct {
		zone string
		x    api.Question
		a    api.Answer
		want []int
	}{
		{"w.x", q("t.w.x", 1), api.Answer{Kind: 4, Cut: "x", Sets: []api.Signed{server("x", "h.w.x"), addr("h.w.x")}}, nil},
		{"w.x", q("t.w.x", 1), api.Answer{Kind: 4, Cut: "w.x", Sets: []api.Signed{server("w.x", "h.w.x"), addr("h.w.x"), signed("w.x", 8, 1, api.Datum{Text: "w.x", N: 2})}}, nil},
		{".", q("t.w.x", 1), api.Answer{Kind: 4, Cut: "w.x", Sets: []api.Signed{server("x", "i.w.x"), server("w.x", "h.w.x", "o"), server("w.x", "i.w.x"), addr("h.w.x"), addr("o"), addr("i.w.x"), signed("h.w.x", 5, 1, text("t")), server("h.w.x", "o"), addr("w.x")}}, []int{1, 2, 3}},
		{".", q("t.w.x", 1), api.Answer{Kind: 4, Cut: "w.x", Sets: []api.Signed{addr("h.w.x"), server("w.x", "h.w.x"), signed("w.x", 6, 1, nums(1, 1)), signed("w.x", 5, 1, text("t"))}}, []int{0, 1, 2}},
		{".", q("t.w.x", 1), api.Answer{Kind: 4, Cut: "w.x", Sets: []api.Signed{addr("h.w.x")}}, nil},
		{".", q("w.x", 5), api.Answer{Kind: 2, Sets: []api.Signed{signed("*.x", 1, 1, nums(1)), signed("*.w.x", 5, 1, text("t")), signed("*", 5, 1, text("t")), signed("w.x", 5, 1, text("t")), signed("*.y", 5, 1, text("t"))}}, []int{2}},
		{".", q("w.x", 1), api.Answer{Kind: 5, Sets: []api.Signed{signed("y", 4, 1, nums(1)), signed("w.x", 4, 1, nums(1)), signed("a.w.x", 4, 1, nums(1)), addr("w.x")}}, []int{1}},
		{"y", q("w.x", 1), api.Answer{Kind: 5, Sets: []api.Signed{signed("y", 8, 1, api.Datum{Text: "y", N: 2})}}, nil},
		{".", q("w.x", 1), api.Answer{Kind: 3, Sets: []api.Signed{signed("w.x", 3, 1, text("a")), signed("x", 3, 1, text("a")), addr("w.x")}}, []int{0}},
		{".", q("w.x", 1), api.Answer{Kind: 7, Sets: []api.Signed{addr("w.x"), signed("y", 8, 1, api.Datum{Text: "y", N: 2})}}, nil},
	} {
		var want []api.Signed
		for _, k := range c.want {
			want = append(want, c.a.Sets[k])
		}
		if l, e := validate.Filter(c.zone, c.x, c.a); e != api.OK || !value.SameSigneds(l, want) {
			t.Error(i, l, e)
		}
	}
}

// P30.1: the wildcard of the root.
func TestRootWildcard(t *testing.T) {
	rootKeys := by(signed(".", 7, 5, nums(1, 1)), ".", 1)
	wild := by(signed("*", 5, 5, text("w")), ".", 1)
	proof := by(signed("p", 8, 5, api.Datum{Text: "r", N: 258}), ".", 1)
	v, e := validate.Judge([]api.Signed{rootKeys, wild, proof}, anchor, q("q", 5), 50, 5)
	if want := (api.Verdict{Kind: api.Secure, Sets: []api.Signed{wild, proof}}); e != api.OK || !reflect.DeepEqual(v, want) {
		t.Error(v, e)
	}
}

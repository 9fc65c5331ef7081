package span_test

import (
	"slices"
	"testing"

	"nameplan/api"
	"nameplan/sample"
	"nameplan/span"
)

func spans(l ...int) []api.Span {
	var out []api.Span
	for i := 0; i < len(l); i += 2 {
		out = append(out, api.Span{From: l[i], Until: l[i+1]})
	}
	return out
}

// P20.1: the example of the document, and the edges.
func TestExample(t *testing.T) {
	check := func(got []api.Span, e api.Errno, want ...int) {
		t.Helper()
		if e != api.OK || !slices.Equal(got, spans(want...)) {
			t.Error(got, e)
		}
	}
	n, e := span.Normal(spans(5, 7, 1, 3, 3, 4, 9, 9))
	check(n, e, 1, 4, 5, 7)
	n, e = span.Cross(spans(1, 4, 5, 7), spans(3, 6))
	check(n, e, 3, 4, 5, 6)
	n, e = span.Minus(spans(1, 4, 5, 7), spans(3, 6))
	check(n, e, 1, 3, 6, 7)
	n, e = span.Grow(spans(5, 7, 12, 13), 6, 1)
	check(n, e, 0, 14)
	n, e = span.Grow(spans(19999990, 20000000), 20000000, 20000000)
	check(n, e, 0, 20000000)
	n, e = span.Union(spans(1, 2, 4, 5), spans(2, 4))
	check(n, e, 1, 5)
	for i, l := range [][]api.Span{spans(0, 0), spans(1, 0), spans(-1, 1), spans(1, 20000001), spans(1, 2, 2, 3), spans(3, 4, 1, 2), make([]api.Span, 20001)} {
		_, e := span.Union(l, nil)
		_, f := span.Cross(nil, l)
		_, g := span.Minus(l, l)
		_, h := span.Grow(l, 1, 1)
		if span.Valid(l) || e != api.ErrArg || f != e || g != e || h != e {
			t.Error(i, e, f, g, h)
		}
	}
	for i, l := range [][]api.Span{spans(1, 0), spans(-1, 1), spans(1, 20000001), make([]api.Span, 20001)} {
		if n, e := span.Normal(l); e != api.ErrArg || len(n) > 0 {
			t.Error(i, n, e)
		}
	}
	for _, c := range [][2]int{{-1, 0}, {0, -1}, {20000001, 0}, {0, 20000001}} {
		if n, e := span.Grow(spans(1, 2), c[0], c[1]); e != api.ErrArg || len(n) > 0 {
			t.Error(c, e)
		}
	}
	if !span.Has(spans(5, 4, 3, 7, 5, 6), 6) || span.Has(spans(5, 4, 3, 7), 7) || span.Has(nil, 0) {
		t.Error("has")
	}
	var a, b []api.Span
	for i := range 20000 {
		a = append(a, api.Span{From: 4 * i, Until: 4*i + 1})
		b = append(b, api.Span{From: 4*i + 2, Until: 4*i + 3})
	}
	if n, e := span.Union(a, b); e != api.ErrLimit || len(n) > 0 {
		t.Error(e)
	}
}

func arbitrary(d *sample.Dice) []api.Span {
	var l []api.Span
	for range d.Roll(6) {
		from := d.Roll(40)
		l = append(l, api.Span{From: from, Until: from + d.Roll(6)})
	}
	return l
}

// P20.2 to P20.7.
func TestLaws(t *testing.T) {
	d := sample.New(29)
	for range 500 {
		raw, raw2 := arbitrary(d), arbitrary(d)
		a, _ := span.Normal(raw)
		b, _ := span.Normal(raw2)
		slices.Reverse(raw)
		back, _ := span.Normal(raw)
		again, _ := span.Normal(a)
		u, _ := span.Union(a, b)
		c, _ := span.Cross(a, b)
		m, _ := span.Minus(a, b)
		before, after := d.Roll(5), d.Roll(5)
		g, _ := span.Grow(a, before, after)
		for _, l := range [][]api.Span{a, b, u, c, m, g} {
			if !span.Valid(l) {
				t.Error(l)
			}
		}
		if !slices.Equal(back, a) || !slices.Equal(again, a) {
			t.Error(raw, a, back)
		}
		for x := range 55 {
			ia, ib := span.Has(a, x), span.Has(b, x)
			grown := false
			for _, s := range a {
				grown = grown || s.From-before <= x && x < s.Until+after
			}
			if ia != span.Has(raw, x) || span.Has(u, x) != (ia || ib) || span.Has(c, x) != (ia && ib) || span.Has(m, x) != (ia && !ib) || span.Has(g, x) != grown || ia && !span.Has(g, x) {
				t.Error(x, a, b, u, c, m, g)
			}
		}
		parts, _ := span.Union(c, m)
		none, _ := span.Cross(c, m)
		u2, _ := span.Union(b, a)
		c2, _ := span.Cross(b, a)
		e, _ := span.Normal(arbitrary(d))
		m2, _ := span.Minus(m, e)
		be, _ := span.Union(b, e)
		m3, _ := span.Minus(a, be)
		if !slices.Equal(parts, a) || len(none) > 0 || !slices.Equal(u, u2) || !slices.Equal(c, c2) || !slices.Equal(m2, m3) {
			t.Error("laws", a, b, e)
		}
		far, _ := span.Grow(a, 0, 0)
		if !slices.Equal(far, a) {
			t.Error(far)
		}
		shifted := slices.Clone(a)
		for i := range shifted {
			shifted[i].From += 100
			shifted[i].Until += 100
		}
		g1, _ := span.Grow(shifted, 2, 3)
		g1, _ = span.Grow(g1, before, after)
		g2, _ := span.Grow(shifted, 2+before, 3+after)
		if !slices.Equal(g1, g2) {
			t.Error(g1, g2)
		}
		if !slices.Equal(a, b) && !slices.ContainsFunc(slices.Concat(a, b), func(s api.Span) bool {
			return span.Has(a, s.From) != span.Has(b, s.From) || span.Has(a, s.Until-1) != span.Has(b, s.Until-1)
		}) {
			t.Error(a, b)
		}
	}
}

// P20.1: at most 20000 stretches.
func TestLimits(t *testing.T) {
	var l []api.Span
	for i := range 20001 {
		l = append(l, api.Span{From: 3 * i, Until: 3*i + 1})
	}
	n, e := span.Normal(l[:20000])
	_, f := span.Normal(l)
	if !span.Valid(l[:20000]) || span.Valid(l) || e != api.OK || !slices.Equal(n, l[:20000]) || f != api.ErrArg {
		t.Error(e, f)
	}
	u, e := span.Union(l[:10000], l[10000:20000])
	_, f = span.Union(l[:10000], l[10000:])
	if e != api.OK || len(u) != 20000 || f != api.ErrLimit {
		t.Error(e, f)
	}
	u, e = span.Cross(l[:20000], spans(0, 20000000))
	if e != api.OK || len(u) != 20000 {
		t.Error(e)
	}
	_, e = span.Minus(spans(0, 20000000), l[:20000])
	if e != api.OK {
		t.Error(e)
	}
	shifted := []api.Span{}
	for _, s := range l[:20000] {
		shifted = append(shifted, api.Span{From: s.From + 1, Until: s.Until + 1})
	}
	if _, e = span.Minus(spans(0, 20000000), shifted); e != api.ErrLimit {
		t.Error(e)
	}
}

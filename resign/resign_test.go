package resign_test

import (
	"slices"
	"testing"

	"nameplan/api"
	"nameplan/holds"
	"nameplan/resign"
	"nameplan/sample"
	"nameplan/sign"
	"nameplan/span"
	"nameplan/trust"
)

func between(from, until int) api.Signed {
	s := sample.Signed("w.x", 1, 5, sample.Nums(7))
	g, _ := sign.Sign(s.Set, "x", api.Key{N: 1, Alg: 1}, from, until)
	s.Sigs = []api.Sig{g}
	return s
}

// P25.1, P25.2: sure times.
func TestSure(t *testing.T) {
	if l, e := resign.Sure(between(10, 90), 5, 200); e != api.OK || !slices.Equal(l, []api.Span{{From: 15, Until: 86}}) {
		t.Error(l, e)
	}
	for _, c := range [][2]int{{10, 90}, {0, 0}, {50, 60}, {190, 500}} {
		s := between(c[0], c[1])
		for drift := range 9 {
			for _, end := range []int{1, 55, 200} {
				l, e := resign.Sure(s, drift, end)
				if e != api.OK || !span.Valid(l) {
					t.Error(l, e)
				}
				for at := range 220 {
					want := at < end && trust.Signed(s, "x", []api.Key{{N: 1, Alg: 1}}, at, drift)
					if span.Has(l, at) != want {
						t.Error(c, drift, end, at, l)
					}
				}
				if less, _ := resign.Sure(s, max(0, drift-1), end); drift > 0 {
					if gone, _ := span.Minus(l, less); len(gone) > 0 {
						t.Error("a lesser drift", gone)
					}
				}
			}
		}
	}
	if l, e := resign.Sure(sample.Signed("w.x", 1, 5, sample.Nums(7)), 1000, 20000000); e != api.OK || !slices.Equal(l, []api.Span{{Until: 20000000}}) {
		t.Error(l, e)
	}
	odd := between(10, 90)
	odd.Sigs = append(odd.Sigs, api.Sig{From: 10, Until: 91})
	for i, s := range []api.Signed{odd, {}, {Set: odd.Set, Sigs: []api.Sig{{From: 5, Until: 4}}}, {Set: odd.Set, Sigs: []api.Sig{{From: -1}}}, {Set: odd.Set, Sigs: []api.Sig{{Until: 20000001}}}, {Set: odd.Set, Sigs: make([]api.Sig, 7)}} {
		if l, e := resign.Sure(s, 0, 5); e != api.ErrArg || len(l) > 0 {
			t.Error(i, e)
		}
	}
	for _, c := range [][2]int{{-1, 5}, {1001, 5}, {0, 0}, {0, 20000001}} {
		if l, e := resign.Sure(between(1, 2), c[0], c[1]); e != api.ErrArg || len(l) > 0 {
			t.Error(c, e)
		}
	}
}

// P25.1: times, and errors.
func TestTimes(t *testing.T) {
	if l, e := resign.Times(5, 200, 100, 5, 20); e != api.OK || !slices.Equal(l, []int{5, 72, 139}) {
		t.Error(l, e)
	}
	for i, c := range []struct {
		begin, end, length, drift, life int
		e                               api.Errno
	}{{5, 200, 100, -1, 20, api.ErrArg}, {5, 200, 100, 1001, 20, api.ErrArg}, {4, 200, 100, 5, 20, api.ErrArg}, {5, 5, 100, 5, 20, api.ErrArg}, {5, 10000001, 100, 5, 20, api.ErrArg}, {5, 200, 0, 5, 20, api.ErrArg}, {5, 200, 10000001, 5, 20, api.ErrArg}, {5, 200, 100, 5, -1, api.ErrArg}, {5, 200, 100, 5, 100001, api.ErrArg},
		{5, 200, 33, 5, 20, api.ErrTime}, {5, 200, 34, 5, 20, api.OK}, {0, 401, 1, 0, 2, api.ErrLimit}, {0, 400, 1, 0, 2, api.OK}, {0, 401, 1, 0, 3, api.ErrTime}, {0, 400, 1, 0, 0, api.OK}, {1 << 62, 1 << 62, 1, 0, 0, api.ErrArg}} {
		if l, e := resign.Times(c.begin, c.end, c.length, c.drift, c.life); e != c.e || (e == api.OK) != (len(l) > 0) {
			t.Error(i, l, e)
		}
	}
	a, _ := resign.Times(5, 300, 100, 5, 20)
	b, _ := resign.Times(5, 300, 110, 5, 20)
	c, _ := resign.Times(5, 300, 100, 5, 10)
	if len(b) > len(a) || len(c) > len(a) {
		t.Error(a, b, c)
	}
}

// renewed returns a history in which a zone is signed anew at some times.
func renewed(times []int, signed []int, end, length, drift, life int) api.History {
	h := api.History{Hosts: sample.Hosts(), Anchor: sample.Signed(".", 6, 5, sample.Nums(1, 1)).Set, Hints: []int{1}, Drift: drift, End: end}
	for i, at := range times {
		until := end
		if i+1 < len(times) {
			until = times[i+1]
		}
		z := sample.With(sample.Bare("x", i, "h"), sample.Signed("w.x", 1, life, sample.Nums(7)))
		z, _ = sign.All(z, []api.Key{{N: 1, Alg: 1}}, signed[i]-drift, signed[i]+length)
		h.Copies = append(h.Copies, api.Copy{From: at, Until: until, Zone: z})
	}
	return h
}

// P25.3 to P25.6: a zone that is signed in time has no gaps, one that is signed later has.
func TestGaps(t *testing.T) {
	for _, c := range [][3]int{{100, 5, 20}, {60, 1, 30}, {90, 3, 0}, {80, 0, 40}} {
		length, drift, life := c[0], c[1], c[2]
		times, e := resign.Times(10, 400, length, drift, life)
		if e != api.OK {
			t.Fatal(e)
		}
		if l, e := resign.Gaps(renewed(times, times, 400, length, drift, max(life, 10))); e != api.OK || life >= 10 && len(l) > 0 {
			t.Error(l, e)
		}
		for i := 1; i < len(times); i++ {
			late := slices.Clone(times)
			late[i]++
			h := renewed(late, late, 400, length, drift, life)
			l, e := resign.Gaps(h)
			if e != api.OK || drift > 0 && life > 10 && len(l) == 0 {
				t.Error(i, l, e)
			}
			all, _ := holds.All(h)
			for _, x := range l {
				if len(x.Signed.Sigs) == 0 {
					t.Error("a gap without signatures")
				}
				for _, y := range all {
					if y.Signed.Set.Name == x.Signed.Set.Name && y.Signed.Set.Type == x.Signed.Set.Type && y.Signed.Sigs[0] == x.Signed.Sigs[0] {
						if out, _ := span.Minus(x.Spans, y.Spans); len(out) > 0 {
							t.Error("a gap in which a cache may not use the set")
						}
					}
				}
			}
		}
	}
	if l, e := resign.Gaps(api.History{}); e != api.ErrArg || len(l) > 0 {
		t.Error(e)
	}
}

// P25.1: the edges of all ranges, and just which stretches are gaps.
func TestEdges(t *testing.T) {
	for i, c := range []struct {
		begin, end, length, drift, life int
		e                               api.Errno
	}{
		{1000, 2000, 4000, 1000, 5, api.OK}, {1001, 2000, 4005, 1001, 5, api.ErrArg}, {0, 1, 5, 0, 5, api.OK}, {9999999, 10000000, 5, 0, 5, api.OK}, {9999999, 10000001, 5, 0, 5, api.ErrArg}, {0, 5, 1, 0, 1, api.OK}, {0, 5, 0, 0, 1, api.ErrArg}, {0, 5, 10000000, 0, 1, api.OK}, {0, 5, 10000001, 0, 1, api.ErrArg}, {0, 5, 100000, 0, 100000, api.OK}, {0, 5, 100001, 0, 100001, api.ErrArg}, {5, 9, 50, 5, 5, api.OK}, {5, 9, 50, 6, 5, api.ErrArg},
	} {
		if l, e := resign.Times(c.begin, c.end, c.length, c.drift, c.life); e != c.e || (e == api.OK) != (len(l) > 0) || e == api.OK && l[0] != c.begin {
			t.Error(i, l, e)
		}
	}
	s := between(10, 90)
	for drift, want := range map[int]api.Errno{0: api.OK, 1000: api.OK, 1001: api.ErrArg, -1: api.ErrArg} {
		if _, e := resign.Sure(s, drift, 5); e != want {
			t.Error(drift, e)
		}
	}
	for end, want := range map[int]api.Errno{0: api.ErrArg, 1: api.OK, 20000000: api.OK, 20000001: api.ErrArg} {
		if _, e := resign.Sure(s, 0, end); e != want {
			t.Error(end, e)
		}
	}
	six := api.Signed{Set: s.Set}
	for range 6 {
		six.Sigs = append(six.Sigs, api.Sig{From: 0, Until: 20000000})
	}
	if l, e := resign.Sure(six, 0, 50); e != api.OK || !slices.Equal(l, []api.Span{{Until: 50}}) {
		t.Error(l, e)
	}
	odd := api.Signed{Set: s.Set, Sigs: []api.Sig{{From: 3, Until: 9}, {From: 4, Until: 9}}}
	if _, e := resign.Sure(odd, 0, 50); e != api.ErrArg {
		t.Error(e)
	}
	z := sample.With(sample.Bare("x", 1, "h"), s)
	h := api.History{Hosts: sample.Hosts(), Copies: []api.Copy{{Until: 95, Zone: z}}, Anchor: sample.Signed(".", 6, 5, sample.Nums(1, 1)).Set, Hints: []int{1}, Drift: 3, End: 200}
	l, e := resign.Gaps(h)
	if e != api.OK || len(l) != 1 || l[0].Signed.Set.Name != "w.x" || !slices.Equal(l[0].Spans, []api.Span{{From: 0, Until: 13}, {From: 88, Until: 95}}) || !slices.Equal(l[0].Fresh, []api.Span{{Until: 95}}) || l[0].Zone != "x" {
		t.Error(l, e)
	}
}

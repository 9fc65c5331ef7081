package holds_test

import (
	"reflect"
	"slices"
	"strconv"
	"testing"

	"nameplan/api"
	"nameplan/cache"
	"nameplan/history"
	"nameplan/holds"
	"nameplan/sample"
	"nameplan/span"
	"nameplan/value"
)

var nums, signed = sample.Nums, sample.Signed

func q(n string, typ int) api.Question { return api.Question{Name: n, Type: typ} }

func example(life int, l ...api.Sig) api.History {
	s := signed("w.x", 1, life, nums(7))
	s.Sigs = l
	return api.History{Hosts: sample.Hosts(), Anchor: signed(".", 6, 5, nums(1, 1)).Set, Hints: []int{1}, Drift: 2, End: 40,
		Copies: []api.Copy{{Until: 20, Zone: sample.With(sample.Bare("x", 1, "h"), s)}}}
}

// P23.1: the example of the document, and errors.
func TestExample(t *testing.T) {
	sig := func(until int) api.Sig { return api.Sig{Zone: "x", Key: 1, Alg: 1, Until: until} }
	for i, c := range []struct {
		h     api.History
		until int
	}{{example(10), 33}, {example(10, sig(25)), 28}, {example(0), 24}, {example(10, sig(5)), 20}, {example(10, sig(90)), 33}} {
		l, e := holds.All(c.h)
		x := l[len(l)-1]
		if e != api.OK || x.Signed.Set.Name != "w.x" || !slices.Equal(x.Spans, []api.Span{{Until: c.until}}) || !slices.Equal(x.Fresh, []api.Span{{Until: 20}}) {
			t.Error(i, x, e)
		}
		for at := range 45 {
			p, e := holds.Possible(c.h, q("w.x", 1), at)
			if e != api.OK || (len(p) == 1) != (at < c.until) {
				t.Error(i, at, p)
			}
		}
	}
	h := example(10)
	_, e := holds.All(api.History{})
	_, f := holds.Possible(h, q("w.x", 0), 1)
	_, g := holds.Possible(h, q("w.x", 1), -1)
	ok, k := holds.Allowed(h, api.Cache{List: make([]api.Entry, 1)}, 1)
	ok2, m := holds.Allowed(h, api.Cache{}, 20000001)
	_, n := holds.Possible(h, q("w.x", 1), 20000001)
	if e != api.ErrArg || f != e || g != e || k != e || m != e || n != e || ok || ok2 {
		t.Error(e, f, g, k, m, n)
	}
}

// P23.1: too many sets.
func TestLimit(t *testing.T) {
	h := example(10)
	for k := range 3 {
		z := sample.Bare("x", k+2, "h")
		for i := range 6700 {
			z.Sets = append(z.Sets, signed("n"+string([]byte{'a' + byte(i/676), 'a' + byte(i/26%26), 'a' + byte(i%26)})+".x", 1, k, nums(1)))
		}
		h.Copies = append(h.Copies, api.Copy{Host: k + 1, Until: 20, Zone: z})
	}
	_, e := holds.All(h)
	_, f := holds.Possible(h, q("w.x", 1), 5)
	ok, g := holds.Allowed(h, api.Cache{}, 5)
	if e != api.ErrLimit || f != e || g != e || ok {
		t.Error(e, f, g)
	}
}

// P23.2 to P23.7: in arbitrary histories.
func TestLaws(t *testing.T) {
	d := sample.New(32)
	for range 3 {
		h := d.History()
		more, shorter := h, h
		more.Drift++
		shorter.Copies = nil
		for _, c := range h.Copies {
			if c.From < 30 {
				c.Until = min(c.Until, 30)
				shorter.Copies = append(shorter.Copies, c)
			}
		}
		all, e := holds.All(h)
		if e != api.OK {
			t.Fatal(e)
		}
		zones, _ := history.Zones(h)
		var want []api.Held
		for _, z := range zones {
			l, _ := history.Published(h, z)
			want = append(want, l...)
		}
		for i, x := range all {
			fresh := x
			fresh.Spans = nil
			if !reflect.DeepEqual(fresh, want[i]) || !span.Valid(x.Spans) {
				t.Error(x)
			}
			life := max(1, x.Signed.Set.Life)
			for at := range 100 {
				may := span.Has(x.Fresh, at)
				for u := range at + 1 {
					kept := at < u+life+2*h.Drift
					if len(x.Signed.Sigs) > 0 {
						kept = kept && at <= x.Signed.Sigs[0].Until+h.Drift
					}
					may = may || span.Has(x.Fresh, u) && kept
				}
				if span.Has(x.Spans, at) != may {
					t.Error(x, at)
				}
			}
		}
		for at := 0; at < 70; at += 9 {
			var c api.Cache
			for _, x := range all {
				s := x.Signed.Set
				p, _ := holds.Possible(h, q(s.Name, s.Type), at)
				p2, _ := holds.Possible(more, q(s.Name, s.Type), at)
				p3, _ := holds.Possible(shorter, q(s.Name, s.Type), at)
				is := slices.ContainsFunc(p, func(y api.Signed) bool { return value.SameSigned(y, x.Signed) })
				if span.Has(x.Spans, at) && !is || len(p2) < len(p) || at < 30 && !reflect.DeepEqual(p, p3) {
					t.Error(x, at)
				}
				one := api.Cache{List: []api.Entry{{Signed: x.Signed, Zone: x.Zone, Until: at + 1}}}
				if ok, e := holds.Allowed(h, one, at); ok != span.Has(x.Spans, at) || e != api.OK {
					t.Error(x, at, ok, e)
				}
				one.List[0].Until = max(1, at)
				if ok, _ := holds.Allowed(h, one, at); at > 0 && !ok {
					t.Error("what is over is not allowed")
				}
				if e := (api.Entry{Signed: x.Signed, Zone: x.Zone, Until: at + 1}); span.Has(x.Spans, at) && cache.Valid(api.Cache{List: append(slices.Clone(c.List), e)}) {
					c.List = append(c.List, e)
				}
			}
			ok, _ := holds.Allowed(h, c, at)
			less, _ := holds.Allowed(h, api.Cache{List: c.List[len(c.List)/2:]}, at)
			if !ok || !less {
				t.Error("a cache of possible sets")
			}
		}
	}
}

// P23.1: the edges of times and sets, sets of two zones, and what is over.
func TestEdges(t *testing.T) {
	h := example(10)
	for at, want := range map[int]api.Errno{-1: api.ErrArg, 0: api.OK, 20000000: api.OK, 20000001: api.ErrArg} {
		_, e := holds.Possible(h, q("w.x", 1), at)
		_, f := holds.Allowed(h, api.Cache{}, at)
		if e != want || f != want {
			t.Error(at, e, f)
		}
	}
	for typ, want := range map[int]api.Errno{0: api.ErrArg, 1: api.OK, 8: api.OK, 9: api.ErrArg} {
		if _, e := holds.Possible(h, q("w.x", typ), 5); e != want {
			t.Error(typ, e)
		}
	}
	if _, e := holds.Possible(h, q("W", 1), 5); e != api.ErrArg {
		t.Error(e)
	}
	if _, e := holds.Possible(api.History{}, q("x", 1), 5); e != api.ErrArg {
		t.Error(e)
	}
	if _, e := holds.Allowed(api.History{}, api.Cache{}, 5); e != api.ErrArg {
		t.Error(e)
	}
	// the same set, published by the root and by x: it is possible once
	twin := sample.With(sample.Bare(".", 1, "h"), signed("x", 2, 9, sample.Text("h")), signed("w.x", 1, 10, nums(7)))
	h.Copies = append(h.Copies, api.Copy{Host: 1, Until: 20, Zone: twin})
	l, e := holds.Possible(h, q("w.x", 1), 5)
	all, f := holds.All(h)
	both := slices.DeleteFunc(all, func(x api.Held) bool { return x.Signed.Set.Name != "w.x" })
	if e != api.OK || f != api.OK || len(l) != 1 || len(both) != 2 || both[0].Zone != "." || both[1].Zone != "x" {
		t.Error(l, both)
	}
	for _, c := range []struct {
		e    api.Entry
		t    int
		want bool
	}{
		{api.Entry{Signed: signed("w.x", 1, 10, nums(7)), Zone: "x", Until: 50}, 32, true}, {api.Entry{Signed: signed("w.x", 1, 10, nums(7)), Zone: "x", Until: 50}, 33, false}, {api.Entry{Signed: signed("w.x", 1, 10, nums(7)), Zone: "x", Until: 40}, 40, true}, {api.Entry{Signed: signed("w.x", 1, 10, nums(7)), Zone: "x", Until: 41}, 40, false}, {api.Entry{Signed: signed("w.x", 1, 10, nums(7)), Zone: ".", Until: 50}, 32, true}, {api.Entry{Signed: signed("w.x", 1, 11, nums(7)), Zone: "x", Until: 50}, 5, false}, {api.Entry{Signed: signed("d.x", 1, 11), Zone: "x", Until: 50}, 5, true},
	} {
		if ok, e := holds.Allowed(h, api.Cache{List: []api.Entry{c.e}}, c.t); ok != c.want || e != api.OK {
			t.Error(c, ok, e)
		}
	}
	l[0].Set.Data[0].N, all[0].Spans[0].From, all[0].Signed.Set.Life = 99, 99, 99
	if again, _ := holds.Possible(h, q("w.x", 1), 5); again[0].Set.Data[0].N == 99 {
		t.Error("shared memory")
	}
}

// P23.1: just 20000 sets of several zones.
func TestMost(t *testing.T) {
	h := example(10)
	h.Copies = nil
	for _, apex := range []string{"x", "y"} {
		z := sample.Bare(apex, 1, "h")
		for i := range 9998 {
			z.Sets = append(z.Sets, signed("n"+strconv.Itoa(10000+i)+"."+apex, 1, 5, nums(1)))
		}
		h.Copies = append(h.Copies, api.Copy{Until: 20, Zone: z})
	}
	if l, e := holds.All(h); e != api.OK || len(l) != 20000 {
		t.Error(len(l), e)
	}
	h.Copies = append(h.Copies, api.Copy{Until: 20, Zone: sample.Bare("z", 1, "h")})
	if l, e := holds.All(h); e != api.ErrLimit || len(l) > 0 {
		t.Error(len(l), e)
	}
}

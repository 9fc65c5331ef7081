package history_test

import (
	"reflect"
	"slices"
	"testing"

	"nameplan/api"
	"nameplan/history"
	"nameplan/sample"
	"nameplan/span"
	"nameplan/value"
	"nameplan/world"
)

func example() api.History {
	a, b := sample.Bare("x", 1, "h"), sample.Bare("x", 2, "h")
	return api.History{Hosts: sample.Hosts(), Anchor: sample.Signed(".", 6, 5, sample.Nums(1, 1)).Set, Hints: []int{1}, End: 40,
		Copies: []api.Copy{{Host: 0, Until: 10, Zone: a}, {Host: 0, From: 10, Until: 30, Zone: b}, {Host: 1, From: 5, Until: 20, Zone: a}}}
}

// P21.1: the example of the document.
func TestExample(t *testing.T) {
	h := example()
	l, e := history.Published(h, "x")
	if e != api.OK || len(l) != 3 || l[1].Signed.Set.Data[0].N != 1 || !slices.Equal(l[1].Fresh, []api.Span{{Until: 20}}) || !slices.Equal(l[2].Fresh, []api.Span{{From: 10, Until: 30}}) || !slices.Equal(l[0].Fresh, []api.Span{{Until: 30}}) || len(l[0].Spans) > 0 || l[0].Zone != "x" {
		t.Error(l, e)
	}
	if s, e := history.Serving(h, "x", 2); e != api.OK || !slices.Equal(s, []api.Span{{From: 5, Until: 20}}) {
		t.Error(s, e)
	}
	if s, e := history.Serving(h, "x", 1); e != api.OK || !slices.Equal(s, []api.Span{{Until: 30}}) {
		t.Error(s, e)
	}
	if s, e := history.Serving(h, "x", 77); e != api.ErrNone || len(s) > 0 {
		t.Error(s, e)
	}
	if l, e := history.Published(h, "y"); e != api.ErrNone || len(l) > 0 {
		t.Error(l, e)
	}
	for _, c := range []struct{ t, n int }{{-1, -1}, {0, 1}, {5, 2}, {29, 1}, {30, 0}, {39, 0}, {40, -1}} {
		w, e := history.At(h, c.t)
		if (e == api.OK) != (c.n >= 0) || len(w.Zones) != max(0, c.n) || e != api.OK && (e != api.ErrArg || len(w.Hosts) > 0) {
			t.Error(c, len(w.Zones), e)
		}
	}
}

// P1: histories that are not valid.
func TestErrors(t *testing.T) {
	for i, change := range []func(h *api.History){
		func(h *api.History) { h.End = 0 }, func(h *api.History) { h.End = 10000001 }, func(h *api.History) { h.End = 29 }, func(h *api.History) { h.Drift = -1 }, func(h *api.History) { h.Drift = 1001 }, func(h *api.History) { h.Hints = nil }, func(h *api.History) { h.Anchor.Type = 7 }, func(h *api.History) { h.Hosts[1].Addr = 1 },
		func(h *api.History) { h.Copies[0].Until = 11 }, func(h *api.History) { h.Copies[0].Until = 0 }, func(h *api.History) { h.Copies[0].From = -1 }, func(h *api.History) { h.Copies[0].Host = 5 }, func(h *api.History) { h.Copies[0].Host = -1 }, func(h *api.History) { h.Copies[0].Zone = api.Zone{} }, func(h *api.History) { h.Copies = slices.Repeat(h.Copies[:1], 4001) },
	} {
		h := example()
		change(&h)
		_, e := history.At(h, 0)
		_, f := history.Zones(h)
		_, g := history.Published(h, "x")
		_, k := history.Serving(h, "x", 1)
		if history.Valid(h) || e != api.ErrArg || f != e || g != e || k != e {
			t.Error(i, e, f, g, k)
		}
	}
	_, g := history.Published(example(), "X")
	_, k := history.Serving(example(), "X", 1)
	if !history.Valid(example()) || g != api.ErrArg || k != g {
		t.Error(g, k)
	}
}

func published(t *testing.T, h api.History, zone string, at int) map[string]bool {
	l, e := history.Published(h, zone)
	if e != api.OK && e != api.ErrNone {
		t.Fatal(e)
	}
	out := map[string]bool{}
	all := map[string]bool{}
	for _, x := range l {
		if all[value.Key(x.Signed)] {
			t.Error(x, "twice")
		}
		all[value.Key(x.Signed)] = true
		if span.Has(x.Fresh, at) {
			out[value.Key(x.Signed)] = true
		}
	}
	return out
}

// P21.2 to P21.7: in arbitrary histories.
func TestLaws(t *testing.T) {
	d := sample.New(30)
	for range 15 {
		h := d.History()
		if !history.Valid(h) {
			t.Fatal("not valid")
		}
		turned, parts, shorter := h, h, h
		turned.Copies = slices.Clone(h.Copies)
		slices.Reverse(turned.Copies)
		parts.Copies, shorter.Copies = nil, nil
		for _, c := range h.Copies {
			if c.Until-c.From > 1 {
				a, b := c, c
				a.Until = (c.From + c.Until) / 2
				b.From = a.Until
				parts.Copies = append(parts.Copies, a, b)
			} else {
				parts.Copies = append(parts.Copies, c)
			}
			if c.From < 30 {
				c.Until = min(c.Until, 30)
				shorter.Copies = append(shorter.Copies, c)
			}
		}
		zones, _ := history.Zones(h)
		z2, _ := history.Zones(turned)
		z3, _ := history.Zones(parts)
		if !slices.Equal(zones, z2) || !slices.Equal(zones, z3) {
			t.Error(zones, z2, z3)
		}
		for at := 0; at < 60; at += 7 {
			w, e := history.At(h, at)
			if e != api.OK || !world.Valid(w) {
				t.Error(e)
			}
			p, _ := history.At(parts, at)
			s, _ := history.At(shorter, at)
			if !reflect.DeepEqual(w, p) || at < 30 && !reflect.DeepEqual(w, s) {
				t.Error(at)
			}
			for _, zone := range zones {
				want := map[string]bool{}
				for _, x := range w.Zones {
					for _, s := range x.Zone.Sets {
						if x.Zone.Apex == zone {
							want[value.Key(s)] = true
						}
					}
				}
				for _, other := range []api.History{h, turned, parts} {
					if got := published(t, other, zone, at); !reflect.DeepEqual(got, want) {
						t.Error(zone, at, got, want)
					}
				}
				for i, host := range h.Hosts {
					l, _ := history.Serving(h, zone, host.Addr)
					l2, _ := history.Serving(turned, zone, host.Addr)
					serves := slices.ContainsFunc(w.Zones, func(p api.Placed) bool { return p.Host == i && p.Zone.Apex == zone })
					if span.Has(l, at) != serves || !slices.Equal(l, l2) || !span.Valid(l) {
						t.Error(zone, host, at, l)
					}
				}
			}
		}
	}
}

// P21.1: the apexes in order, each once.
func TestZones(t *testing.T) {
	h := example()
	for i, apex := range []string{"y", "a.y", ".", "b"} {
		h.Copies = append(h.Copies, api.Copy{Host: i, Until: 5, Zone: sample.Bare(apex, 1, "h")})
	}
	if l, e := history.Zones(h); e != api.OK || !slices.Equal(l, []string{".", "b", "x", "y", "a.y"}) {
		t.Error(l, e)
	}
	h.Copies = nil
	if l, e := history.Zones(h); e != api.OK || len(l) > 0 {
		t.Error(l, e)
	}
}

// P21.1: the edges of ends, drifts, copies, zones and sets.
func TestEdges(t *testing.T) {
	for i, c := range []struct {
		change func(h *api.History)
		good   bool
	}{
		{func(h *api.History) { h.End = 10000000 }, true}, {func(h *api.History) { h.End = 10000001 }, false}, {func(h *api.History) { h.End, h.Copies = 1, nil }, true}, {func(h *api.History) { h.End, h.Copies = 0, nil }, false}, {func(h *api.History) { h.Drift = 1000 }, true}, {func(h *api.History) { h.Drift = 1001 }, false}, {func(h *api.History) { h.End = 30 }, true},
		{func(h *api.History) { h.Copies = many(500, 1) }, true}, {func(h *api.History) { h.Copies = many(501, 1) }, false}, {func(h *api.History) { h.Copies = many(400, 10) }, true}, {func(h *api.History) {
			h.Copies = append(many(400, 10), api.Copy{Host: 1, Until: 5, Zone: sample.Bare("zaa", 1, "h")})
		}, false},
		{func(h *api.History) { h.Copies[2].Host = 0 }, false}, {func(h *api.History) { h.Copies[2] = api.Copy{From: 30, Until: 31, Zone: h.Copies[0].Zone} }, true}, {func(h *api.History) { h.Copies[2] = api.Copy{From: 29, Until: 31, Zone: h.Copies[0].Zone} }, false},
	} {
		h := example()
		c.change(&h)
		if history.Valid(h) != c.good {
			t.Error(i)
		}
	}
	h := example()
	h.Copies = nil
	for k := range 3 {
		z := sample.Bare("x", k+2, "h")
		for i := range 6665 {
			z.Sets = append(z.Sets, sample.Signed("n"+string([]byte{'a' + byte(i/676), 'a' + byte(i/26%26), 'a' + byte(i%26)})+".x", 1, k, sample.Nums(1)))
		}
		h.Copies = append(h.Copies, api.Copy{Host: k, Until: 20, Zone: z})
	}
	l, e := history.Published(h, "x")
	if e != api.OK || len(l) != 3*6665+4 {
		t.Error(len(l), e)
	}
	last := &h.Copies[2].Zone
	last.Sets = append(last.Sets, sample.Signed("oa.x", 1, 1, sample.Nums(1)))
	if l, e := history.Published(h, "x"); e != api.OK || len(l) != 20000 {
		t.Error(len(l), e)
	}
	last.Sets = append(last.Sets, sample.Signed("ob.x", 1, 1, sample.Nums(1)))
	if l, e := history.Published(h, "x"); e != api.ErrLimit || len(l) > 0 {
		t.Error(len(l), e)
	}
}

// many returns copies of several apexes, with several stretches each.
func many(apexes, times int) []api.Copy {
	var out []api.Copy
	for i := range apexes {
		for k := range times {
			z := sample.Bare("z"+string([]byte{byte('a' + i/26), byte('a' + i%26)}), 1, "h")
			out = append(out, api.Copy{Host: 0, From: k, Until: k + 1, Zone: z})
		}
	}
	return out
}

// P21.2: results share no memory with the history.
func TestShared(t *testing.T) {
	h := example()
	want := sample.Bare("x", 1, "h")
	w, _ := history.At(h, 5)
	l, _ := history.Published(h, "x")
	w.Hosts[0].Name, w.Hints[0], w.Anchor.Data[0].N = "q", 9, 9
	w.Zones[0].Zone.Sets[0].Set.Data[0].Text = "q"
	l[0].Signed.Set.Data[0].Text = "q"
	if !value.SameZone(h.Copies[0].Zone, want) || !value.SameZone(w.Zones[1].Zone, want) || h.Hosts[0].Name == "q" || h.Hints[0] == 9 || h.Anchor.Data[0].N == 9 {
		t.Error(h)
	}
}

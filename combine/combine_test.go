package combine_test

import (
	"reflect"
	"slices"
	"testing"

	"nameplan/api"
	"nameplan/combine"
	"nameplan/history"
	"nameplan/holds"
	"nameplan/name"
	"nameplan/sample"
	"nameplan/sign"
	"nameplan/span"
	"nameplan/value"
	"nameplan/world"
	"nameplan/zone"
)

func q(n string, typ int) api.Question { return api.Question{Name: n, Type: typ} }

func has(l []api.Clash, kind int, zone string, from, until int, one, two api.Question) bool {
	return slices.ContainsFunc(l, func(x api.Clash) bool {
		is := func(s api.Signed, y api.Question) bool { return s.Set.Name == y.Name && s.Set.Type == y.Type }
		return x.Kind == kind && x.Zone == zone && x.Span == api.Span{From: from, Until: until} && is(x.One, one) && is(x.Two, two)
	})
}

// P36.1: the example of the document, and what is missing.
func TestExample(t *testing.T) {
	l, e := combine.Clashes(sample.Rolled())
	if e != api.OK || !has(l, 2, "x", 50, 59, q("x", 7), q("x", 4)) || !has(l, 2, "x", 50, 59, q("x", 7), q("x", 2)) || !has(l, 1, "x", 50, 100, q("x", 6), q("x", 7)) || has(l, 2, "x", 50, 59, q("x", 7), q("x", 7)) || slices.ContainsFunc(l, func(x api.Clash) bool { return x.Kind > 2 || x.Zone != "x" || x.Span.From < 50 }) {
		t.Error(l, e)
	}
	h := sample.Rolled()
	h.Anchor.Data[0].N = 7
	if l, _ := combine.Clashes(h); !slices.ContainsFunc(l, func(x api.Clash) bool {
		return x.Kind == 1 && x.Zone == "." && value.SameSigned(x.One, api.Signed{Set: h.Anchor}) && x.Span == api.Span{Until: 100}
	}) {
		t.Error(l)
	}
	h = sample.Rolled()
	h.Hints = []int{2}
	if l, _ := combine.Clashes(h); !slices.ContainsFunc(l, func(x api.Clash) bool {
		return reflect.DeepEqual(x, api.Clash{Kind: 3, Zone: ".", Span: api.Span{Until: 100}, Q: q(".", 2)})
	}) {
		t.Error(l)
	}
	h = sample.Rolled()
	h.Copies = h.Copies[:1]
	l, _ = combine.Clashes(h)
	if !has(l, 2, "x", 0, 100, q("x", 2), q("", 0)) || !slices.ContainsFunc(l, func(x api.Clash) bool { return x.Kind == 3 && x.Zone == "x" && x.Q == q("a.ns", 1) }) {
		t.Error(l)
	}
	h.Copies[0].Zone, _ = zone.Drop(h.Copies[0].Zone, q("x", 6))
	if l, _ = combine.Clashes(h); !has(l, 1, "x", 0, 100, q("x", 2), q("", 0)) {
		t.Error(l)
	}
	h.Copies = nil
	if l, _ = combine.Clashes(h); !reflect.DeepEqual(l, []api.Clash{{Kind: 2, Zone: ".", Span: api.Span{Until: 100}}, {Kind: 3, Zone: ".", Span: api.Span{Until: 100}, Q: q(".", 2)}}) {
		t.Error(l)
	}
	_, e = combine.Clashes(api.History{})
	_, f := combine.Data(api.History{}, q("x", 1))
	_, g := combine.Data(sample.Rolled(), q("x", 9))
	if e != api.ErrArg || f != e || g != e {
		t.Error(e, f, g)
	}
	if l, e := combine.Data(sample.Rolled(), q("w.x", 1)); e != api.OK || !reflect.DeepEqual(l, []api.Clash{{Kind: 5, Zone: "x", Span: api.Span{Until: 100}, Q: q("w.x", 1)}}) {
		t.Error(l, e)
	}
}

// at tells whether a clash for which a function says so has a time.
func at(l []api.Clash, t int, is func(api.Clash) bool) bool {
	return slices.ContainsFunc(l, func(x api.Clash) bool { return x.Span.From <= t && t < x.Span.Until && is(x) })
}

func signedBy(s api.Signed, zone string, d api.Datum) bool {
	return slices.ContainsFunc(s.Sigs, func(g api.Sig) bool {
		return g.Zone == zone && sign.Check(s.Set, g, api.Key{N: d.N, Alg: d.M})
	})
}

// P36.2 to P36.8: clashes at each time, by what is in use, and served.
func TestLaws(t *testing.T) {
	d := sample.New(41)
	for i := range 9 {
		h := d.Shaken()
		if i%4 == 0 {
			h = d.History()
		}
		all, _ := holds.All(h)
		l, e := combine.Clashes(h)
		if e != api.OK {
			t.Fatal(e)
		}
		// In arbitrary histories two zones publish the same set: then stretches may meet.
		ordered(t, l, i%4 != 0)
		for now := 0; now < h.End; now += 3 {
			w, _ := history.At(h, now)
			var use []api.Held
			for _, x := range all {
				if span.Has(x.Spans, now) {
					use = append(use, x)
				}
			}
			for _, a := range use {
				pairs(t, h, l, use, a, now)
				if a.Signed.Set.Type == api.TypeServer {
					servers(t, w, all, l, a, now)
				}
				window := at(l, now, func(x api.Clash) bool {
					return x.Kind == 4 && x.Zone == a.Zone && value.SameSigned(x.Two, a.Signed)
				})
				if len(a.Signed.Sigs) > 0 && window != (a.Signed.Sigs[0].From > now-h.Drift || a.Signed.Sigs[0].Until < now+h.Drift) {
					t.Error("window", now, a.Signed)
				}
			}
		}
		for _, n := range []string{"w.x", "x", "t.y.x", "q", "."} {
			for _, typ := range []int{1, 4, 5, 6} {
				data(t, h, q(n, typ))
			}
		}
	}
}

// pairs checks clashes of a set with all that are in use.
func pairs(t *testing.T, h api.History, l []api.Clash, use []api.Held, a api.Held, now int) {
	for _, b := range use {
		if b.Signed.Set.Type == 7 && a.Signed.Set.Type == 6 && a.Signed.Set.Name == b.Zone && a.Zone != b.Zone {
			fits := slices.ContainsFunc(b.Signed.Set.Data, func(d api.Datum) bool {
				return slices.Contains(a.Signed.Set.Data, d) && signedBy(b.Signed, b.Zone, d)
			})
			is := at(l, now, func(x api.Clash) bool {
				return x.Kind == 1 && x.Zone == b.Zone && value.SameSigned(x.One, a.Signed) && value.SameSigned(x.Two, b.Signed)
			})
			if fits == is {
				t.Error("anchors", now, a, b)
			}
		}
		if b.Signed.Set.Type == 7 && b.Zone == a.Zone && a.Signed.Set.Type != 7 {
			own := slices.ContainsFunc(h.Copies, func(c api.Copy) bool {
				_, has, _ := zone.Find(c.Zone, q(a.Signed.Set.Name, a.Signed.Set.Type))
				cut, behind, _ := zone.Cut(c.Zone, a.Signed.Set.Name)
				foreign := behind && (a.Signed.Set.Type == 1 || a.Signed.Set.Type == 2 && cut == a.Signed.Set.Name)
				return c.Zone.Apex == a.Zone && has && !foreign && slices.ContainsFunc(c.Zone.Sets, func(s api.Signed) bool { return value.SameSigned(s, a.Signed) })
			})
			good := slices.ContainsFunc(b.Signed.Set.Data, func(d api.Datum) bool { return signedBy(a.Signed, a.Zone, d) })
			is := at(l, now, func(x api.Clash) bool {
				return x.Kind == 2 && x.Zone == b.Zone && value.SameSigned(x.One, b.Signed) && value.SameSigned(x.Two, a.Signed)
			})
			if is != (own && !good) {
				t.Error("keys", now, a, b, own, good)
			}
		}
	}
}

// servers checks clashes of a server set.
func servers(t *testing.T, w api.World, all []api.Held, l []api.Clash, a api.Held, now int) {
	c := a.Signed.Set.Name
	anchored, keyed := false, false
	for _, x := range all {
		anchored = anchored || x.Signed.Set.Type == 6 && x.Signed.Set.Name == c && x.Zone != c && span.Has(x.Fresh, now)
		keyed = keyed || x.Signed.Set.Type == 7 && x.Zone == c && span.Has(x.Fresh, now)
	}
	lone := func(kind int) bool {
		return at(l, now, func(x api.Clash) bool {
			return x.Kind == kind && x.Zone == c && value.SameSigned(x.One, a.Signed) && x.Two.Set.Type == 0 && x.Q.Type == 0
		})
	}
	if a.Zone != c && lone(1) == anchored || lone(2) == keyed {
		t.Error("there", now, a, anchored, keyed)
	}
	for _, d := range a.Signed.Set.Data {
		published, good := false, true
		for _, x := range all {
			if x.Signed.Set.Type != 1 || x.Signed.Set.Name != d.Text {
				continue
			}
			published = published || span.Has(x.Fresh, now)
			serves := slices.ContainsFunc(w.Zones, func(p api.Placed) bool {
				return p.Zone.Apex == c && slices.Contains(x.Signed.Set.Data, api.Datum{N: w.Hosts[p.Host].Addr})
			})
			good = good && (!span.Has(x.Spans, now) || serves)
		}
		is := at(l, now, func(x api.Clash) bool {
			return x.Kind == 3 && x.Zone == c && x.Q == q(d.Text, 1) && value.SameSigned(x.One, a.Signed)
		})
		if is == (published && good) {
			t.Error("servers", now, a, d, published, good)
		}
	}
}

// data checks the clashes of a question.
func data(t *testing.T, h api.History, x api.Question) {
	l, e := combine.Data(h, x)
	if e != api.OK {
		t.Fatal(e)
	}
	ordered(t, l, true)
	for now := 0; now < h.End; now += 3 {
		w, _ := history.At(h, now)
		for host, y := range h.Hosts {
			a, _ := world.Ask(w, y.Addr, x)
			served := slices.ContainsFunc(w.Zones, func(p api.Placed) bool { return p.Zone.Apex == a.Cut })
			good := a.Kind == api.AnsData || a.Kind == api.AnsRefused || a.Kind == api.AnsRefer && served
			is := at(l, now, func(c api.Clash) bool { return c.Host == host && c.Q == x && c.Kind == 5 })
			if is == good {
				t.Error("data", x, now, host, a.Kind)
			}
		}
	}
}

// ordered checks the order of clashes, and that stretches do not meet.
func ordered(t *testing.T, l []api.Clash, apart bool) {
	for i := 1; i < len(l); i++ {
		a, b := l[i-1], l[i]
		c := a.Kind - b.Kind
		if c == 0 {
			c, _ = name.Compare(a.Zone, b.Zone)
		}
		if c == 0 {
			c = a.Span.From - b.Span.From
		}
		if c > 0 {
			t.Error("order", a, b)
		}
	}
	for i, a := range l {
		for _, b := range l[i+1:] {
			x := b
			x.Span = a.Span
			if apart && reflect.DeepEqual(x, a) && a.Span.Until >= b.Span.From && b.Span.Until >= a.Span.From {
				t.Error("stretches meet", a, b)
			}
		}
	}
}

// many returns a history in which hosts refer to a zone that is served at every second time: a clash for each host and each gap.
func many(hosts, gaps int) api.History {
	h := api.History{Anchor: sample.Signed(".", 6, 5, sample.Nums(1, 1)).Set, Hints: []int{1}, End: 2 * gaps}
	root := sample.Sealed(sample.With(sample.Bare(".", 1, "a"), sample.Signed("x", 2, 1, sample.Text("a"))), 0, 9000, 1)
	x := sample.Bare("x", 1, "a")
	for i := range hosts {
		h.Hosts = append(h.Hosts, api.Host{Name: "a", Addr: i + 1})
		h.Copies = append(h.Copies, api.Copy{Host: i, Until: h.End, Zone: root})
	}
	h.Hosts = append(h.Hosts, api.Host{Name: "a", Addr: 90}, api.Host{Name: "a", Addr: 91})
	for i := range gaps {
		h.Copies = append(h.Copies, api.Copy{Host: hosts, From: 2*i + 1, Until: 2*i + 2, Zone: x})
	}
	return h
}

// P36.1: just 20000 clashes of data, and one more.
func TestMost(t *testing.T) {
	h := many(40, 500)
	for i := range h.Copies {
		if h.Copies[i].Zone.Apex == "x" {
			h.Copies[i].Zone = sample.With(h.Copies[i].Zone, sample.Signed("w.x", 1, 1, sample.Nums(1)))
		}
	}
	if l, e := combine.Data(h, q("w.x", 1)); e != api.OK || len(l) != 20000 {
		t.Error(len(l), e)
	}
	h.Copies = append(h.Copies, api.Copy{Host: 41, Until: 1, Zone: h.Copies[0].Zone})
	if l, e := combine.Data(h, q("w.x", 1)); e != api.ErrLimit || len(l) > 0 {
		t.Error(len(l), e)
	}
	for typ, want := range map[int]api.Errno{0: api.ErrArg, 1: api.OK, 8: api.OK, 9: api.ErrArg} {
		if _, e := combine.Data(sample.Rolled(), q("x", typ)); e != want {
			t.Error(typ, e)
		}
	}
	if _, e := combine.Data(sample.Rolled(), q("X", 1)); e != api.ErrArg {
		t.Error(e)
	}
}

// P36.1: too many clashes of keys.
func TestTooMany(t *testing.T) {
	h := api.History{Hosts: sample.Hosts(), Anchor: sample.Signed(".", 6, 5, sample.Nums(1, 1)).Set, Hints: []int{1}, End: 200}
	z := sample.Bare("x", 1, "a")
	for i := range 200 {
		z.Sets = append(z.Sets, sample.Signed("n"+string([]byte{byte('a' + i/26), byte('a' + i%26)})+".x", 5, 500, sample.Text("t")))
	}
	for i := range 120 {
		v := sample.With(z, sample.Signed("x", 7, 500, sample.Nums(i+1, 1)))
		h.Copies = append(h.Copies, api.Copy{From: i, Until: i + 1, Zone: v})
	}
	if l, e := combine.Clashes(h); e != api.ErrLimit || len(l) > 0 {
		t.Error(len(l), e)
	}
	h.Copies = h.Copies[:90]
	if l, e := combine.Clashes(h); e != api.OK || len(l) < 90*200 {
		t.Error(len(l), e)
	}
}

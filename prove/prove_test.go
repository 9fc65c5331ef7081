package prove_test

import (
	"reflect"
	"slices"
	"testing"

	"nameplan/api"
	"nameplan/cache"
	"nameplan/combine"
	"nameplan/history"
	"nameplan/holds"
	"nameplan/name"
	"nameplan/prove"
	"nameplan/run"
	"nameplan/sample"
	"nameplan/span"
	"nameplan/world"
	"nameplan/zone"
)

func q(n string, typ int) api.Question { return api.Question{Name: n, Type: typ} }

func accepted(t *testing.T, h api.History, from, until int, l ...api.Question) (api.Clash, bool) {
	t.Helper()
	x, ok, e := prove.Prove(h, l, from, until)
	if e != api.OK {
		t.Fatal(e)
	}
	return x, ok
}

// P37.1: the example of the document.
func TestExample(t *testing.T) {
	h := sample.Rolled()
	if x, ok := accepted(t, h, 0, 0, q("w.x", 1)); !ok || x.Kind != 0 {
		t.Error(x)
	}
	if x, ok := accepted(t, h, 0, 100, q("w.x", 1)); ok || !reflect.DeepEqual(x, api.Clash{Kind: 5, Zone: "x", Span: api.Span{Until: 100}, Q: q("w.x", 1)}) {
		t.Error(x, ok)
	}
	x, ok := accepted(t, h, 0, 100, q("x", 4))
	if ok || x.Kind != 1 || x.Zone != "x" || x.Span != (api.Span{From: 50, Until: 100}) {
		t.Error(x, ok)
	}
	c, y, at, e := prove.Shown(h, x)
	if e != api.OK || y != q("x", 7) || at != 50 || len(c.List) != 2 || c.List[0].Signed.Set.Type != 6 || c.List[0].Zone != "." || c.List[1].Signed.Set.Data[0].N != 4 || c.List[1].Zone != "x" || c.List[0].Until != 51 {
		t.Error(c, y, at, e)
	}
	if x, ok := accepted(t, h, 0, 50, q("x", 4)); !ok {
		t.Error(x)
	}
	if x, ok := accepted(t, h, 60, 70, q("x", 4)); ok || x.Span != (api.Span{From: 60, Until: 70}) {
		t.Error(x)
	}
	if x, ok := accepted(t, sample.Tree(), 0, 100, q("w.x", 1), q("t.y.x", 5), q("a.ns", 1), q("x", 7)); !ok {
		t.Error(x)
	}
}

// changed returns the tree after a change of the copies of an apex.
func changed(apex string, from int, f func(z api.Zone) api.Zone) api.History {
	h := sample.Tree()
	for i, c := range slices.Clone(h.Copies) {
		if c.Zone.Apex == apex {
			key := map[string]int{".": 1, "x": 2, "y.x": 3, "ns": 4}[apex]
			n := sample.Sealed(sample.Numbered(f(c.Zone), 2), 0, 900, key)
			if from == 0 {
				h.Copies[i].Zone = n
				continue
			}
			h.Copies[i].Until = from
			h.Copies = append(h.Copies, api.Copy{Host: c.Host, From: from, Until: 100, Zone: n})
		}
	}
	return h
}

func put(l ...api.Signed) func(z api.Zone) api.Zone {
	return func(z api.Zone) api.Zone { return sample.With(z, l...) }
}

func drop(l ...api.Question) func(z api.Zone) api.Zone {
	return func(z api.Zone) api.Zone {
		for _, x := range l {
			z, _ = zone.Drop(z, x)
		}
		return z
	}
}

// P37.1: each part of the way has clashes of its own.
func TestParts(t *testing.T) {
	text, nums, signed := sample.Text, sample.Nums, sample.Signed
	lone := sample.Tree()
	lone.Copies = slices.DeleteFunc(lone.Copies, func(c api.Copy) bool { return c.Zone.Apex == "y.x" })
	ended := sample.Tree()
	for i, c := range ended.Copies {
		if c.Zone.Apex == "y.x" {
			ended.Copies[i].Until = 40
		}
	}
	for i, c := range []struct {
		h    api.History
		l    []api.Question
		want api.Clash
	}{
		{lone, []api.Question{q("t.y.x", 5)}, api.Clash{Kind: 2, Zone: "y.x", Span: api.Span{Until: 100}}},
		{ended, []api.Question{q("t.y.x", 5)}, api.Clash{Kind: 2, Zone: "y.x", Span: api.Span{From: 40, Until: 49}}},
		{changed("x", 30, drop(q("w.x", 1))), []api.Question{q("w.x", 1)}, api.Clash{Kind: 5, Zone: "x", Span: api.Span{From: 30, Until: 100}, Q: q("w.x", 1), Host: 2}},
		{changed("x", 30, put(signed("n.x", 1, 10, nums(1)))), []api.Question{q("n.x", 1)}, api.Clash{Kind: 5, Zone: "x", Span: api.Span{Until: 30}, Q: q("n.x", 1), Host: 2}},
		{changed(".", 30, drop(q("h.x", 1))), []api.Question{q("w.x", 1)}, api.Clash{Kind: 3, Zone: "x", Span: api.Span{From: 30, Until: 100}, Q: q("h.x", 1)}},
		{changed("x", 0, put(signed("y.x", 2, 10, text("h.w")), signed("h.w", 1, 10, nums(5)))), []api.Question{q("t.y.x", 5)}, api.Clash{Kind: 3, Zone: "y.x", Span: api.Span{Until: 100}, Q: q("h.w", 1)}},
		{changed("x", 0, put(signed("y.x", 2, 10, text("q.ns")))), []api.Question{q("t.y.x", 5)}, api.Clash{Kind: 3, Zone: "y.x", Span: api.Span{Until: 100}, Q: q("q.ns", 1)}},
	} {
		x, ok := accepted(t, c.h, 0, 100, c.l...)
		x.One, x.Two = api.Signed{}, api.Signed{}
		if ok || !reflect.DeepEqual(x, c.want) {
			t.Error(i, x, ok)
		}
	}
	// a denial that is in use still misleads, after the name has come
	h := changed("x", 30, put(signed("n.x", 1, 10, nums(1))))
	if x, ok := accepted(t, h, 30, 100, q("n.x", 1)); ok || x.Kind != 5 || x.Two.Set.Type != 8 || x.Span.From != 30 || x.Span.Until > 50 {
		t.Error(x, ok)
	}
	if x, ok := accepted(t, h, 50, 100, q("n.x", 1)); !ok {
		t.Error(x)
	}
	// an alias at the name of a host misleads, too
	alias := func(z api.Zone) api.Zone {
		z, _ = zone.Drop(z, q("a.ns", 1))
		return sample.With(z, signed("a.ns", 3, 10, text("b.ns")))
	}
	if x, ok := accepted(t, changed("ns", 30, alias), 45, 100, q("b.ns", 1)); ok {
		t.Error(x)
	}
	// zones that need each other's servers
	loop := sample.Tree()
	loop.Copies[0].Zone = sample.Sealed(sample.With(loop.Copies[0].Zone, signed("v", 2, 5, text("h.u")), signed("v", 6, 5, nums(5, 1)), signed("u", 2, 5, text("h.v")), signed("u", 6, 5, nums(6, 1))), 0, 900, 1)
	loop.Copies[2].Zone = loop.Copies[0].Zone
	if !hasLoop(t, loop, q("h.u", 1)) || hasLoop(t, sample.Tree(), q("w.x", 1)) {
		t.Error("loops")
	}
}

// hasLoop takes away all times before, to see clashes of the ninth part alone: they last from 0 to the end.
func hasLoop(t *testing.T, h api.History, x api.Question) bool {
	c, ok := accepted(t, h, 0, 100, x)
	return !ok && c.Span == api.Span{Until: 100}
}

// P1: errors.
func TestErrors(t *testing.T) {
	h := sample.Rolled()
	good := []api.Question{q("x", 4)}
	for i, f := range []func() (api.Clash, bool, api.Errno){
		func() (api.Clash, bool, api.Errno) { return prove.Prove(api.History{}, good, 0, 0) },
		func() (api.Clash, bool, api.Errno) { return prove.Prove(h, slices.Repeat(good, 51), 0, 0) },
		func() (api.Clash, bool, api.Errno) { return prove.Prove(h, []api.Question{q("x", 9)}, 0, 0) },
		func() (api.Clash, bool, api.Errno) { return prove.Prove(h, good, -1, 0) },
		func() (api.Clash, bool, api.Errno) { return prove.Prove(h, good, 5, 4) },
		func() (api.Clash, bool, api.Errno) { return prove.Prove(h, good, 5, 101) },
	} {
		if x, ok, e := f(); e != api.ErrArg || ok || x.Kind != 0 {
			t.Error(i, e)
		}
	}
	x, _ := accepted(t, h, 0, 100, good...)
	with := func(f func(x *api.Clash)) api.Clash { y := x; f(&y); return y }
	for i, c := range []struct {
		h api.History
		x api.Clash
		e api.Errno
	}{
		{api.History{}, x, api.ErrArg}, {h, with(func(x *api.Clash) { x.Kind = 3 }), api.ErrKind}, {h, with(func(x *api.Clash) { x.Kind = 5 }), api.ErrKind}, {h, with(func(x *api.Clash) { x.Two = api.Signed{} }), api.ErrKind}, {h, with(func(x *api.Clash) { x.Span.From = 5 }), api.ErrNone}, {h, with(func(x *api.Clash) { x.Zone = "." }), api.ErrNone}, {h, with(func(x *api.Clash) { x.One = x.Two }), api.ErrNone}, {h, with(func(x *api.Clash) { x.Span.From = -1 << 62 }), api.ErrNone}, {h, with(func(x *api.Clash) { x.Kind = 4; x.One = api.Signed{} }), api.OK},
	} {
		k, y, at, e := prove.Shown(c.h, c.x)
		if e != c.e || e != api.OK && (len(k.List) > 0 || y.Type+at != 0) {
			t.Error(i, e)
		}
	}
}

// P37.2 to P37.5: parts of time, and of questions, and what is shown.
func TestLaws(t *testing.T) {
	d := sample.New(42)
	all := []api.Question{q("w.x", 1), q("t.y.x", 5), q("a.ns", 1), q("x", 4), q("y.x", 6)}
	for range 30 {
		h := d.Shaken()
		a, b, c := d.Roll(50), 50, 50+d.Roll(50)
		var l []api.Question
		for _, x := range all {
			if d.Roll(2) == 0 {
				l = append(l, x)
			}
		}
		x, whole := accepted(t, h, a, c, l...)
		_, one := accepted(t, h, a, b, l...)
		_, two := accepted(t, h, b, c, l...)
		if whole != (one && two) {
			t.Error("parts", a, c, whole, one, two)
		}
		if len(l) == 0 && !whole {
			t.Error("no questions")
		}
		if more, ok := accepted(t, h, a, c, all...); ok && !whole || !whole && more.Span.From > x.Span.From {
			t.Error("fewer questions")
		}
		if whole {
			resolved(t, d, h, l, a, c)
			continue
		}
		if x.Span.From < a || x.Span.Until > c || x.Span.From >= x.Span.Until {
			t.Error(x.Span, a, c)
		}
		if _, ok := accepted(t, h, a, x.Span.From, l...); !ok {
			t.Error("not the first clash")
		}
		if x.Kind == 3 || x.Kind == 5 || len(x.Two.Sigs) == 0 {
			continue
		}
		k, y, at, e := prove.Shown(h, x)
		if ok, f := holds.Allowed(h, k, at); e != api.OK || f != api.OK || !ok || !cache.Valid(k) || at != x.Span.From {
			t.Error("shown", e, f, ok)
		}
		if r, _, e := run.Resolve(h, k, y, at, nil); e != api.OK || r.Result.Kind == api.Secure && !heard(r, x) {
			t.Error("a resolver with what is shown finds", y)
		}
	}
}

// heard reports whether a resolver heard a set with the name and type of one of two that clash.
func heard(r api.Transcript, x api.Clash) bool {
	return slices.ContainsFunc(r.Heard, func(h api.Heard) bool {
		return slices.ContainsFunc(h.Answer.Sets, func(s api.Signed) bool {
			is := func(y api.Set) bool { return s.Set.Name == y.Name && s.Set.Type == y.Type }
			return is(x.One.Set) || is(x.Two.Set)
		})
	})
}

// resolved checks P37.6 and P37.7, and that resolvers with any allowed cache find the protected names.
func resolved(t *testing.T, d *sample.Dice, h api.History, l []api.Question, from, until int) {
	clashes, _ := combine.Clashes(h)
	held, _ := holds.All(h)
	for _, x := range l {
		for _, c := range clashes {
			if in, _ := name.Under(x.Name, c.Zone); in && c.Span.From < until && from < c.Span.Until {
				t.Error("not quiet", c)
			}
		}
		for at := from; at < until; at += 6 {
			w, _ := history.At(h, at)
			for _, host := range h.Hosts {
				if a, _ := world.Ask(w, host.Addr, x); a.Kind != api.AnsData && a.Kind != api.AnsRefer && a.Kind != api.AnsRefused {
					t.Error(x, at, a)
				}
			}
			var c api.Cache
			for _, y := range held {
				e := api.Entry{Signed: y.Signed, Zone: y.Zone, Until: at + 1 + d.Roll(9)}
				if more := (api.Cache{List: append(slices.Clone(c.List), e)}); span.Has(y.Spans, at) && d.Roll(3) == 0 && cache.Valid(more) {
					c = more
				}
			}
			var picks []int
			for range 40 {
				picks = append(picks, d.Roll(99))
			}
			if r, _, e := run.Resolve(h, c, x, at, picks); e != api.OK || r.Result.Kind != api.Secure && len(r.Heard) < 40 {
				t.Error(x, at, r.Result, len(r.Heard))
			}
		}
	}
}

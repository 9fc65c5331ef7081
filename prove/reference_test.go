package prove_test

import (
	"reflect"
	"slices"
	"testing"

	"nameplan/api"
	"nameplan/combine"
	"nameplan/denial"
	"nameplan/holds"
	"nameplan/name"
	"nameplan/prove"
	"nameplan/sample"
	"nameplan/span"
	"nameplan/zone"
)

// reference finds the clashes of the way tick by tick, as the document describes them.
type reference struct {
	api.History
	held  []api.Held
	asked []api.Question
	names []string
}

func below(a, b string) bool {
	is, _ := name.Under(a, b)
	return is
}

func newReference(h api.History, asked []api.Question) *reference {
	r := &reference{History: h, asked: asked}
	r.held, _ = holds.All(h)
	known := map[string]bool{}
	for _, x := range asked {
		for n, e := x.Name, api.OK; e == api.OK; n, e = name.Parent(n) {
			known[n] = true
		}
	}
	for grown := true; grown; {
		grown = false
		for _, x := range r.held {
			if x.Signed.Set.Type != 2 || !known[x.Signed.Set.Name] {
				continue
			}
			for _, d := range x.Signed.Set.Data {
				for n, e := d.Text, api.OK; e == api.OK; n, e = name.Parent(n) {
					grown = grown || !known[n]
					known[n] = true
				}
			}
		}
	}
	for n := range known {
		r.names = append(r.names, n)
	}
	slices.SortFunc(r.names, func(a, b string) int { c, _ := name.Compare(a, b); return c })
	return r
}

// clip returns a clash for each stretch in which something is so.
func (r *reference) clip(x api.Clash, is func(t int) bool) []api.Clash {
	var out []api.Clash
	for t := 0; t < r.End; t++ {
		if !is(t) {
			continue
		}
		x.Span = api.Span{From: t}
		for t < r.End && is(t) {
			t++
		}
		x.Span.Until = t
		out = append(out, x)
	}
	return out
}

// some reports whether a set of a type at a name, for which a function says so, is in use.
func (r *reference) some(t int, n string, typ int, is func(api.Held) bool) bool {
	return slices.ContainsFunc(r.held, func(x api.Held) bool {
		return x.Signed.Set.Name == n && x.Signed.Set.Type == typ && span.Has(x.Spans, t) && is(x)
	})
}

func all(api.Held) bool { return true }

func (r *reference) serves(host, t int, is func(apex string) bool) bool {
	return slices.ContainsFunc(r.Copies, func(c api.Copy) bool {
		return c.Host == host && c.From <= t && t < c.Until && is(c.Zone.Apex)
	})
}

func (r *reference) anchorTime(c string, t int) bool {
	other := func(x api.Held) bool { return x.Zone != c }
	if r.some(t, c, 2, other) {
		return true
	}
	if r.some(t, c, 2, func(x api.Held) bool { return x.Zone == c }) {
		for before := 0; before <= t; before++ {
			if r.some(before, c, 2, other) {
				return true
			}
		}
	}
	for i, host := range r.Hosts {
		if !r.serves(i, t, func(apex string) bool { return apex == c }) {
			continue
		}
		if slices.Contains(r.Hints, host.Addr) || r.serves(i, t, func(apex string) bool { return apex != c && below(c, apex) }) {
			return true
		}
		for _, s := range r.held {
			if s.Signed.Set.Type != 2 || s.Signed.Set.Name == c || !below(c, s.Signed.Set.Name) || !span.Has(s.Spans, t) {
				continue
			}
			for _, d := range s.Signed.Set.Data {
				if r.some(t, d.Text, 1, func(x api.Held) bool { return slices.Contains(x.Signed.Set.Data, api.Datum{N: host.Addr}) }) {
					return true
				}
			}
		}
	}
	return false
}

// hosts returns the data of server sets at a name, in order.
func (r *reference) hosts(c string) []string {
	var out []string
	for _, x := range r.held {
		if x.Signed.Set.Type == 2 && x.Signed.Set.Name == c {
			for _, d := range x.Signed.Set.Data {
				out = append(out, d.Text)
			}
		}
	}
	slices.SortFunc(out, func(a, b string) int { c, _ := name.Compare(a, b); return c })
	return slices.Compact(out)
}

func (r *reference) cut(l []api.Clash, is func(x api.Clash, t int) bool) []api.Clash {
	var out []api.Clash
	for _, x := range l {
		out = append(out, r.clip(x, func(t int) bool { return x.Span.From <= t && t < x.Span.Until && is(x, t) })...)
	}
	return out
}

func (r *reference) data(x api.Question) []api.Clash {
	l, e := combine.Data(r.History, x)
	if e != api.OK {
		panic(e)
	}
	return l
}

func misleads(x api.Held, q api.Question) bool {
	s := x.Signed.Set
	if s.Type == 3 && s.Name == q.Name && q.Type != 3 && q.Type != 8 {
		return true
	}
	if s.Type != 8 || !below(q.Name, x.Zone) {
		return false
	}
	covers, e := denial.Covers(x.Zone, s, q.Name)
	bit := func(typ int) bool { return s.Data[0].N&(1<<typ) != 0 }
	cut := bit(2) && !bit(4)
	speaks := !cut || s.Name == q.Name || !below(q.Name, s.Name)
	if e != api.OK || !speaks {
		return false
	}
	silent := s.Name == q.Name && !bit(q.Type) && !bit(3) && (!cut || q.Type == 6 || q.Type == 8)
	return covers || silent
}

func (r *reference) misleading(q api.Question, is func(api.Held) bool) []api.Clash {
	var out []api.Clash
	for _, x := range r.held {
		if is(x) && misleads(x, q) {
			out = append(out, r.clip(api.Clash{Kind: 5, Zone: x.Zone, Two: x.Signed, Q: q}, func(t int) bool { return span.Has(x.Spans, t) })...)
		}
	}
	return out
}

// first returns the clashes of the parts 1 to 5.
func (r *reference) first() [][]api.Clash {
	parts := make([][]api.Clash, 5)
	l, _ := combine.Clashes(r.History)
	for _, x := range l {
		if slices.Contains(r.names, x.Zone) {
			parts[0] = append(parts[0], x)
		}
	}
	for _, x := range r.asked {
		parts[1] = append(parts[1], r.data(x)...)
	}
	for _, c := range r.names {
		if c != "." {
			parts[2] = append(parts[2], r.cut(r.data(q(c, 6)), func(x api.Clash, t int) bool { return x.Zone != c && r.anchorTime(c, t) })...)
		}
		parts[3] = append(parts[3], r.cut(r.data(q(c, 7)), func(x api.Clash, t int) bool { return x.Zone == c && r.some(t, c, 2, all) })...)
		for _, n := range r.hosts(c) {
			parts[4] = append(parts[4], r.cut(r.data(q(n, 1)), func(x api.Clash, t int) bool { return r.some(t, c, 2, naming(n)) })...)
		}
	}
	return parts
}

func naming(n string) func(api.Held) bool {
	return func(x api.Held) bool { return slices.Contains(x.Signed.Set.Data, api.Datum{Text: n}) }
}

// glue reports whether the glue of a host for a cut is there.
func (r *reference) glue(c, n string, t int) bool {
	some, every := false, true
	for _, x := range r.Copies {
		s, has, e := zone.Find(x.Zone, q(c, 2))
		if x.Zone.Apex == c || e != api.OK || !has || t < x.From || t >= x.Until {
			continue
		}
		_, addr, _ := zone.Find(x.Zone, q(n, 1))
		some = true
		every = every && addr && slices.Contains(s.Set.Data, api.Datum{Text: n})
	}
	return some && every
}

// needs reports whether a name needs another one, by way of as many others as there are names.
func (r *reference) needs(c, a string, depth int) bool {
	for _, n := range r.hosts(c) {
		if below(n, c) {
			continue
		}
		for b, e := n, api.OK; e == api.OK; b, e = name.Parent(b) {
			if below(c, b) || len(r.hosts(b)) == 0 {
				continue
			}
			if b == a || depth > 0 && r.needs(b, a, depth-1) {
				return true
			}
		}
	}
	return false
}

// last returns the clashes of the parts 6 to 10.
func (r *reference) last() [][]api.Clash {
	parts := make([][]api.Clash, 5)
	for _, x := range r.asked {
		parts[0] = append(parts[0], r.misleading(x, all)...)
	}
	alias := func(x api.Held) bool { return x.Signed.Set.Type == 3 }
	zones := 0
	for _, c := range r.names {
		for _, n := range r.hosts(c) {
			parts[1] = append(parts[1], r.cut(r.misleading(q(n, 1), alias), func(x api.Clash, t int) bool { return r.some(t, c, 2, naming(n)) })...)
		}
		if c == "." {
			continue
		}
		for _, x := range r.held {
			for _, d := range x.Signed.Set.Data {
				if x.Signed.Set.Type == 2 && x.Signed.Set.Name == c && below(d.Text, c) {
					parts[2] = append(parts[2], r.clip(api.Clash{Kind: 3, Zone: c, One: x.Signed, Q: q(d.Text, 1)}, func(t int) bool { return span.Has(x.Spans, t) && !r.glue(c, d.Text, t) })...)
				}
			}
		}
		if len(r.hosts(c)) > 0 {
			zones++
		}
		if r.needs(c, c, 10) {
			parts[3] = append(parts[3], api.Clash{Kind: 3, Zone: c, Span: api.Span{Until: r.End}, Q: q(c, 2)})
		}
		began := r.End
		fresh := func(t int) bool {
			return slices.ContainsFunc(r.held, func(x api.Held) bool {
				return x.Signed.Set.Type == 2 && x.Signed.Set.Name == c && x.Zone != c && span.Has(x.Fresh, t)
			})
		}
		for t := r.End - 1; t >= 0; t-- {
			if fresh(t) {
				began = t
			}
		}
		parts[4] = append(parts[4], r.clip(api.Clash{Kind: 3, Zone: c, Q: q(c, 2)}, func(t int) bool {
			return t >= began && !fresh(t) && slices.ContainsFunc(r.held, func(x api.Held) bool { return x.Zone == c && span.Has(x.Spans, t) })
		})...)
	}
	for _, c := range r.names {
		parts[1] = append(parts[1], r.cut(r.misleading(q(c, 7), alias), func(x api.Clash, t int) bool { return r.some(t, c, 2, all) })...)
	}
	if zones > 8 {
		parts[3] = append(parts[3], api.Clash{Kind: 3, Zone: ".", Span: api.Span{Until: r.End}, Q: q(".", 2)})
	}
	return parts
}

// expected returns the first clash in a while, and the part that it comes from.
func expected(parts [][]api.Clash, from, until int) (api.Clash, int) {
	var best api.Clash
	part := 0
	for i, l := range parts {
		for _, x := range l {
			x.Span.From, x.Span.Until = max(from, x.Span.From), min(until, x.Span.Until)
			if x.Span.From < x.Span.Until && (part == 0 || x.Span.From < best.Span.From) {
				best, part = x, i+1
			}
		}
	}
	return best, part
}

// P37.1: what is proved is what the reference says, and each part is the first one somewhere.
func TestReference(t *testing.T) {
	d := sample.New(61)
	wins := map[int]int{}
	for i, h := range crafted(d) {
		for _, asked := range [][]api.Question{{q("w.x", 1)}, {q("t.y.x", 5), q("b.ns", 1)}, {q("n.x", 1), q("x", 8)}, {q("h.u", 1)}, {q("n.x", 1)}, {q("w.y", 1)}, {q("w.y", 1), q("y", 6)}, {q("w.x", 5)}, {q("y", 6)}, {q("l.x", 5), q("c.x", 6)}, {q("l.x", 3), q("l.x", 8)}} {
			r := newReference(h, asked)
			parts := append(r.first(), r.last()...)
			for k := range 16 {
				from := min(h.End-1, k*6+d.Roll(6))
				until := min(h.End, from+1+k%2*d.Roll(h.End))
				want, part := expected(parts, from, until)
				got, ok, e := prove.Prove(h, asked, from, until)
				if e != api.OK || ok != (part == 0) || !same(got, want) {
					t.Fatalf("history %d, %v, %d to %d: %v, but part %d: %v", i, asked, from, until, got, part, want)
				}
				wins[part]++
			}
		}
	}
	if x, ok, e := prove.Prove(sample.Tree(), []api.Question{q("l.x", 3), q("l.x", 8), q("y.x", 8)}, 0, 100); e != api.OK || !ok {
		t.Error("an alias does not mislead about itself", x, e)
	}
	for i, h := range apart() {
		x, ok, e := prove.Prove(h, []api.Question{q([]string{"w.y", "w.x"}[i/5], 1)}, 0, 100)
		if want := i == 0 || i == 5 || i == 7; e != api.OK || ok != want || !want && i < 5 && x.Q != q("c", 6) {
			t.Error(i, x, ok, e)
		}
	}
	for part := range 11 {
		if wins[part] == 0 {
			t.Errorf("part %d is never the first one: %v", part, wins)
		}
	}
}

func same(a, b api.Clash) bool {
	empty := func(x *api.Signed) {
		if len(x.Sigs) == 0 {
			x.Sigs = nil
		}
		if len(x.Set.Data) == 0 {
			x.Set.Data = nil
		}
	}
	for _, x := range []*api.Clash{&a, &b} {
		empty(&x.One)
		empty(&x.Two)
	}
	return reflect.DeepEqual(a, b)
}

// P37.1: just as many questions as there may be.
func TestQuestions(t *testing.T) {
	for n, want := range map[int]api.Errno{50: api.OK, 51: api.ErrArg} {
		if _, _, e := prove.Prove(sample.Tree(), slices.Repeat([]api.Question{q("w.x", 1)}, n), 5, 9); e != want {
			t.Error(n, e)
		}
	}
	for typ, want := range map[int]api.Errno{0: api.ErrArg, 1: api.OK, 8: api.OK, 9: api.ErrArg} {
		if _, _, e := prove.Prove(sample.Tree(), []api.Question{q("w.x", typ)}, 5, 9); e != want {
			t.Error(typ, e)
		}
	}
	if _, _, e := prove.Prove(sample.Tree(), nil, 100, 100); e != api.OK {
		t.Error(e)
	}
	if _, _, e := prove.Prove(sample.Tree(), nil, 0, 101); e != api.ErrArg {
		t.Error(e)
	}
}

// P37.1: too many clashes of data are an error, whatever else is found before.
func TestTooMany(t *testing.T) {
	h := api.History{Anchor: sample.Signed(".", 6, 5, sample.Nums(1, 1)).Set, Hints: []int{1}, End: 1000}
	root := sample.Sealed(sample.With(sample.Bare(".", 1, "a"), sample.Signed("x", 2, 1, sample.Text("a"))), 0, 9000, 1)
	x := sample.With(sample.Bare("x", 1, "a"), sample.Signed("w.x", 1, 1, sample.Nums(1)))
	for i := range 41 {
		h.Hosts = append(h.Hosts, api.Host{Name: "a", Addr: i + 1})
		h.Copies = append(h.Copies, api.Copy{Host: i, Until: 1000, Zone: root})
	}
	for i := range 499 {
		h.Copies = append(h.Copies, api.Copy{Host: 0, From: 2*i + 1, Until: 2*i + 2, Zone: x})
	}
	if l, e := combine.Data(h, q("w.x", 1)); e != api.ErrLimit {
		t.Fatal(len(l), e)
	}
	if c, ok, e := prove.Prove(h, []api.Question{q("w.x", 1)}, 0, 1000); e != api.ErrLimit || ok || c.Kind != 0 {
		t.Error(c.Kind, ok, e)
	}
	if c, ok, e := prove.Prove(h, []api.Question{q("x", 2)}, 0, 1000); e == api.OK && (ok || c.Kind == 0) {
		t.Error(c.Kind, ok, e)
	}
}

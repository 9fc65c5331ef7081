package contest_test

import (
	"reflect"
	"slices"
	"testing"

	"nameplan/api"
	"nameplan/contest"
	"nameplan/history"
	"nameplan/plan"
	"nameplan/prove"
	"nameplan/sample"
	"nameplan/steps"
	"nameplan/value"
	"nameplan/waits"
)

func put(host int, apex string) api.Placed {
	return api.Placed{Host: host, Zone: sample.Bare(apex, 5, "s")}
}

func step(at int, l ...api.Placed) api.Step {
	return api.Step{At: at, Stage: api.Stage{Puts: l}}
}

// P41.1: the example of the document.
func TestExample(t *testing.T) {
	h := sample.Plain()
	a := []api.Step{step(5, put(0, "x")), step(9, put(0, "x"))}
	b := []api.Step{step(5, put(1, "y")), step(7, put(1, "y"))}
	m, e := contest.Merge(h, a, b)
	want := []api.Step{step(5, put(0, "x"), put(1, "y")), step(7, put(1, "y")), step(9, put(0, "x"))}
	if e != api.OK || !reflect.DeepEqual(m, want) {
		t.Error(m, e)
	}
	if l, e := contest.Touch(h, a, b); e != api.OK || len(l) > 0 {
		t.Error(l, e)
	}
	if l, e := contest.Touch(h, a, []api.Step{step(3, put(1, "x"), put(1, "y"), put(1, "."))}); e != api.OK || !slices.Equal(l, []string{"x"}) {
		t.Error(l, e)
	}
	if m, e := contest.Merge(h, a, []api.Step{step(30, put(0, "x"))}); e != api.ErrClash || len(m) > 0 {
		t.Error(m, e)
	}
	if m, e := contest.Merge(h, a, []api.Step{step(30, put(1, "x"))}); e != api.OK || len(m) != 3 {
		t.Error(m, e)
	}
	if m, e := contest.Merge(h, a, nil); e != api.OK || !reflect.DeepEqual(m, a) {
		t.Error(m, e)
	}
}

// P1: errors.
func TestErrors(t *testing.T) {
	h := sample.Plain()
	bad := []api.Step{step(-1)}
	good := []api.Step{step(5, put(0, "x"))}
	for i, c := range [][2][]api.Step{{bad, good}, {good, bad}} {
		_, e := contest.Touch(h, c[0], c[1])
		_, f := contest.Merge(h, c[0], c[1])
		_, ok, g := contest.Order(h, c[0], c[1], nil, 5)
		if e != api.ErrArg || f != e || g != e || ok {
			t.Error(i, e, f, g)
		}
	}
	h.End = 1000
	var a, b []api.Step
	for i := range 400 {
		a = append(a, step(2*i))
		b = append(b, step(2*i+1))
	}
	if _, e := contest.Merge(h, a, b[:1]); e != api.ErrLimit {
		t.Error(e)
	}
	if _, e := contest.Merge(h, a, a); e != api.OK {
		t.Error(e)
	}
	var many, other []api.Placed
	for i := range 500 {
		n := "z" + string([]byte{byte('a' + i/26), byte('a' + i%26)})
		many = append(many, api.Placed{Zone: api.Zone{Apex: n}})
		other = append(other, api.Placed{Host: 1, Zone: api.Zone{Apex: n}})
	}
	if _, e := contest.Merge(h, []api.Step{step(5, many...)}, []api.Step{step(5, other[:1]...)}); e != api.ErrLimit {
		t.Error(e)
	}
	if _, e := contest.Merge(h, []api.Step{step(5, many...)}, []api.Step{step(6, other...)}); e != api.OK {
		t.Error(e)
	}
	for i, c := range []struct {
		b     []api.Step
		l     []api.Question
		limit int
		e     api.Errno
	}{{good, nil, 5, api.ErrClash}, {nil, nil, -1, api.ErrArg}, {nil, nil, 1001, api.ErrArg}, {nil, []api.Question{{}}, 5, api.ErrArg}} {
		if n, ok, e := contest.Order(h, good, c.b, c.l, c.limit); e != c.e || ok || n != 0 {
			t.Error(i, n, ok, e)
		}
	}
}

func arbitrary(d *sample.Dice, hosts ...int) []api.Step {
	var out []api.Step
	for at := d.Roll(9); at < 60 && len(out) < 4; at += 1 + d.Roll(9) {
		s := step(at)
		for _, host := range hosts {
			for _, apex := range []string{"x", "y"} {
				switch d.Roll(4) {
				case 0:
					s.Stage.Puts = append(s.Stage.Puts, api.Placed{Host: host, Zone: api.Zone{Apex: apex}})
				case 1:
					s.Stage.Puts = append(s.Stage.Puts, api.Placed{Host: host, Zone: sample.Bare(apex, d.Roll(9), "h")})
				}
			}
		}
		out = append(out, s)
	}
	return out
}

func same(a, b api.World) bool {
	return len(a.Zones) == len(b.Zones) && !slices.ContainsFunc(a.Zones, func(p api.Placed) bool {
		return !slices.ContainsFunc(b.Zones, func(x api.Placed) bool { return x.Host == p.Host && value.SameZone(x.Zone, p.Zone) })
	})
}

// P41.2 to P41.5, P41.7: merged steps.
func TestLaws(t *testing.T) {
	d := sample.New(45)
	for range 30 {
		h := sample.Plain()
		a, b := arbitrary(d, 0, 1), arbitrary(d, 2, 3)
		touched, _ := contest.Touch(h, a, b)
		for _, apex := range []string{"x", "y"} {
			has := func(l []api.Step) bool {
				return slices.ContainsFunc(l, func(s api.Step) bool {
					return slices.ContainsFunc(s.Stage.Puts, func(p api.Placed) bool { return p.Zone.Apex == apex })
				})
			}
			if slices.Contains(touched, apex) != (has(a) && has(b)) {
				t.Error(touched)
			}
		}
		m, e := contest.Merge(h, a, b)
		n, f := contest.Merge(h, b, a)
		if e != api.OK || f != api.OK || !steps.Valid(h, m) {
			t.Fatal(e, f)
		}
		x, _ := steps.Apply(h, m)
		y, _ := steps.Apply(h, n)
		z, _ := steps.Apply(h, a)
		z, _ = steps.Apply(z, b)
		for at := 0; at < 70; at += 3 {
			p, _ := history.At(x, at)
			q, _ := history.At(y, at)
			r, _ := history.At(z, at)
			if !same(p, q) || !same(p, r) {
				t.Error(at)
			}
		}
		if len(a) > 0 && len(a[0].Stage.Puts) > 0 {
			s := step(70, a[0].Stage.Puts[0])
			if _, e := contest.Merge(h, a, []api.Step{s}); e != api.ErrClash {
				t.Error(e)
			}
		}
	}
}

// P41.6: the delay makes both safe together, and none that is looked at before does.
func TestOrder(t *testing.T) {
	h := sample.Plain()
	asked := []api.Question{{Name: "w.x", Type: 1}, {Name: "w.y", Type: 1}}
	a, e := plan.Plan(h, api.Wish{Kind: 2, Zone: "x", Key: api.Key{N: 8, Alg: 1}}, asked, 5, 90)
	if e != api.OK {
		t.Fatal(e)
	}
	b := []api.Step{step(6, api.Placed{Host: 2, Zone: h.Copies[2].Zone})}
	d, ok, e := contest.Order(h, a, b, asked, 100)
	if d != 0 || !ok || e != api.OK {
		t.Error(d, ok, e)
	}
	// host 2 gets a copy of x, which is safe only with the keys of the end
	last := a[2].Stage.Puts[0].Zone
	b = []api.Step{step(6, api.Placed{Host: 2, Zone: last})}
	a[2].Stage.Puts = a[2].Stage.Puts[:1]
	d, ok, e = contest.Order(h, a, b, asked, 150)
	if e != api.OK || !ok || d == 0 {
		t.Fatal(d, ok, e)
	}
	accepted := func(d int) bool {
		m, _ := contest.Merge(h, a, []api.Step{step(6+d, b[0].Stage.Puts...)})
		next, _ := steps.Apply(h, m)
		_, ok, _ := prove.Prove(next, asked, m[0].At, h.End)
		return ok
	}
	if !accepted(d) || accepted(0) {
		t.Error(d)
	}
	if n, ok, e := contest.Order(h, a, b, asked, d-1); ok || n != 0 || e != api.OK {
		t.Error(n, ok, e)
	}
}

// P41.1, P41.6: the least delay, by a reference, and the edges of the limit.
func TestReference(t *testing.T) {
	h := sample.Plain()
	asked := []api.Question{{Name: "w.x", Type: 1}, {Name: "w.y", Type: 1}}
	a, e := plan.Plan(h, api.Wish{Kind: 2, Zone: "x", Key: api.Key{N: 8, Alg: 1}}, asked, 5, 90)
	if e != api.OK {
		t.Fatal(e)
	}
	last := a[2].Stage.Puts[0].Zone
	first, _ := steps.Apply(h, a)
	moments, _ := waits.Moments(first)
	for i, b := range [][]api.Step{
		{step(6, api.Placed{Host: 2, Zone: last})}, {step(2, api.Placed{Host: 3, Zone: h.Copies[2].Zone}), step(9, api.Placed{Host: 2, Zone: last})}, {step(30, api.Placed{Host: 2, Zone: last})}, {step(150, api.Placed{Host: 2, Zone: h.Copies[1].Zone})}, {step(0, api.Placed{Host: 2, Zone: h.Copies[2].Zone})}, nil, {step(6, api.Placed{Host: 2, Zone: last}), step(180, api.Placed{Host: 2, Zone: api.Zone{Apex: "x"}})}, {step(6, api.Placed{Host: 2, Zone: last}), step(160, api.Placed{Host: 2, Zone: api.Zone{Apex: "x"}})},
	} {
		safe := func(d int) bool {
			var late []api.Step
			for _, s := range b {
				late = append(late, step(s.At+d, s.Stage.Puts...))
			}
			m, _ := contest.Merge(h, a, late)
			next, _ := steps.Apply(h, m)
			_, ok, _ := prove.Prove(next, asked, m[0].At, h.End)
			return ok
		}
		want, found := 0, false
		for d := 0; d <= 200 && !found; d++ {
			looked := d == 0
			for _, s := range b {
				for _, m := range moments {
					looked = looked || d == m-s.At || d == m+1-s.At
				}
			}
			if looked && (d == 0 || b[len(b)-1].At+d < h.End) && safe(d) {
				want, found = d, true
			}
		}
		d, ok, e := contest.Order(h, a, b, asked, 200)
		if e != api.OK || ok != found || d != want {
			t.Error(i, d, ok, want, found, e)
		}
		if found {
			if d, ok, e := contest.Order(h, a, b, asked, want); e != api.OK || !ok || d != want {
				t.Error(i, d, ok, e)
			}
		}
	}
	for limit, want := range map[int]api.Errno{-1: api.ErrArg, 0: api.OK, 200: api.OK, 201: api.ErrArg} {
		if _, _, e := contest.Order(h, a, nil, asked, limit); e != want {
			t.Error(limit, e)
		}
	}
	if d, ok, e := contest.Order(h, nil, nil, asked, 5); e != api.OK || ok || d != 0 {
		t.Error("the window at 0", d, ok, e)
	}
	calm := h
	calm.Drift = 0
	if d, ok, e := contest.Order(calm, nil, nil, asked, 5); e != api.OK || !ok || d != 0 {
		t.Error(d, ok, e)
	}
	m, _ := contest.Merge(h, a, []api.Step{step(a[0].At, put(3, "y"))})
	m[0].Stage.Puts[0].Zone.Sets[0].Set.Data[0].N = 99
	m[0].Stage.Puts[len(m[0].Stage.Puts)-1].Zone.Sets[0].Set.Data[0].N = 99
	if a[0].Stage.Puts[0].Zone.Sets[0].Set.Data[0].N == 99 {
		t.Error("shared memory")
	}
	if _, _, e := contest.Order(h, a, nil, []api.Question{{Name: "w.x", Type: 9}}, 5); e != api.ErrArg {
		t.Error(e)
	}
}

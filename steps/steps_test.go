package steps_test

import (
	"reflect"
	"slices"
	"testing"

	"nameplan/api"
	"nameplan/history"
	"nameplan/sample"
	"nameplan/steps"
)

func put(host int, z api.Zone) api.Placed { return api.Placed{Host: host, Zone: z} }

func stop(host int, apex string) api.Placed {
	return api.Placed{Host: host, Zone: api.Zone{Apex: apex}}
}

func step(at int, l ...api.Placed) api.Step {
	return api.Step{At: at, Stage: api.Stage{Puts: l}}
}

func example() api.History {
	h := api.History{Hosts: sample.Hosts(), Anchor: sample.Signed(".", 6, 5, sample.Nums(1, 1)).Set, Hints: []int{1}, End: 100}
	h.Copies = []api.Copy{{Until: 100, Zone: sample.Bare("x", 1, "h")}}
	return h
}

// P35.1: the example of the document.
func TestExample(t *testing.T) {
	h := example()
	a, b := sample.Bare("x", 1, "h"), sample.Bare("x", 2, "h")
	x, e := steps.Apply(h, []api.Step{step(40, put(0, b))})
	if e != api.OK || !reflect.DeepEqual(x.Copies, []api.Copy{{Until: 40, Zone: a}, {From: 40, Until: 100, Zone: b}}) {
		t.Error(x.Copies, e)
	}
	x, e = steps.Apply(h, []api.Step{step(60, stop(0, "x"))})
	if e != api.OK || !reflect.DeepEqual(x.Copies, []api.Copy{{Until: 60, Zone: a}}) {
		t.Error(x.Copies, e)
	}
	x, e = steps.Apply(h, []api.Step{step(0, stop(0, "x")), step(5, put(1, b), stop(1, "y"), put(0, b)), step(6, stop(1, "x"))})
	if e != api.OK || !reflect.DeepEqual(x.Copies, []api.Copy{{Host: 1, From: 5, Until: 6, Zone: b}, {From: 5, Until: 100, Zone: b}}) {
		t.Error(x.Copies, e)
	}
	if l, e := steps.Owners(h, step(5, put(4, b), put(1, b), put(0, b), put(2, b))); e != api.OK || !slices.Equal(l, []int{0, 1, 2}) {
		t.Error(l, e)
	}
}

// P1, P35.1: errors.
func TestErrors(t *testing.T) {
	h := example()
	w, _ := history.At(h, 0)
	b := sample.Bare("x", 2, "h")
	var many []api.Step
	for i := range 401 {
		many = append(many, api.Step{At: i})
	}
	long := example()
	long.End = 1000
	for i, l := range [][]api.Step{{step(-1)}, {step(100)}, {step(5), step(5)}, {step(5), step(4)}, {step(5, put(5, b))}, {step(5, put(-1, b))}, {step(5, put(0, b), stop(0, "x"))}, {step(5, stop(0, "X"))}, {step(5, stop(0, "*.x"))}, {step(5, put(0, api.Zone{Apex: "x", Sets: b.Sets[:1]}))}, {step(5, slices.Repeat([]api.Placed{put(0, b)}, 501)...)}} {
		x, e := steps.Apply(h, l)
		if steps.Valid(h, l) || e != api.ErrArg || len(x.Hosts) > 0 {
			t.Error(i, e)
		}
		if len(l) == 1 && l[0].At == 5 {
			o, e := steps.Owners(h, l[0])
			y, f := steps.World(w, l[0].Stage)
			if e != api.ErrArg || f != e || len(o)+len(y.Hosts) > 0 {
				t.Error(i, e, f)
			}
		}
	}
	if steps.Valid(long, many) || !steps.Valid(long, many[:400]) || steps.Valid(api.History{}, nil) {
		t.Error("valid")
	}
	_, e := steps.Apply(api.History{}, nil)
	_, f := steps.Owners(api.History{}, api.Step{})
	_, g := steps.World(api.World{}, api.Stage{})
	if e != api.ErrArg || f != e || g != e {
		t.Error(e, f, g)
	}
	var l []api.Placed
	for i := range 500 {
		l = append(l, put(0, sample.Bare("z"+string([]byte{byte('a' + i/26), byte('a' + i%26)}), 1, "h")))
	}
	if _, e := steps.Apply(h, []api.Step{step(5, l...)}); e != api.ErrLimit {
		t.Error(e)
	}
	if _, e := steps.World(w, api.Stage{Puts: l}); e != api.ErrLimit {
		t.Error(e)
	}
	if _, e := steps.Apply(h, []api.Step{step(0, stop(0, "x")), step(5, l...)}); e != api.OK {
		t.Error(e)
	}
}

func arbitrary(d *sample.Dice) []api.Step {
	var out []api.Step
	for at := d.Roll(20); at < 60 && len(out) < 5; at += 1 + d.Roll(20) {
		s := step(at)
		for host := range 4 {
			for _, apex := range []string{"x", "y"} {
				switch d.Roll(6) {
				case 0:
					s.Stage.Puts = append(s.Stage.Puts, stop(host, apex))
				case 1:
					s.Stage.Puts = append(s.Stage.Puts, put(host, sample.Bare(apex, d.Roll(9), "h")))
				}
			}
		}
		out = append(out, s)
	}
	return out
}

// P35.2 to P35.8: arbitrary steps.
func TestLaws(t *testing.T) {
	d := sample.New(40)
	for range 40 {
		h := d.History()
		l := arbitrary(d)
		x, e := steps.Apply(h, l)
		if e != api.OK || !history.Valid(x) || !reflect.DeepEqual(x.Hosts, h.Hosts) || x.End != h.End || x.Drift != h.Drift || !reflect.DeepEqual(x.Hints, h.Hints) || !reflect.DeepEqual(x.Anchor, h.Anchor) {
			t.Fatal(e)
		}
		k := d.Roll(len(l) + 1)
		first, _ := steps.Apply(h, l[:k])
		if both, e := steps.Apply(first, l[k:]); e != api.OK || !reflect.DeepEqual(both, x) {
			t.Error("parts", e)
		}
		for at := 0; at < 60; at += 4 {
			want, _ := history.At(h, at)
			got, _ := history.At(x, at)
			for _, s := range l {
				if s.At > at {
					break
				}
				// What the history has at the time may have begun behind the step, and goes with it.
				want, e = steps.World(want, s.Stage)
				again, f := steps.World(want, s.Stage)
				if e != api.OK || f != e || !same(again, want) {
					t.Error(e, f)
				}
			}
			if !same(got, want) {
				t.Error(at, got.Zones, want.Zones)
			}
			for _, p := range got.Zones {
				mentioned := slices.ContainsFunc(l, func(s api.Step) bool {
					return slices.ContainsFunc(s.Stage.Puts, func(x api.Placed) bool { return x.Host == p.Host && x.Zone.Apex == p.Zone.Apex })
				})
				before, _ := history.At(h, at)
				if !mentioned && !slices.ContainsFunc(before.Zones, func(x api.Placed) bool { return reflect.DeepEqual(x, p) }) {
					t.Error("others")
				}
			}
		}
		for _, s := range l {
			o, e := steps.Owners(h, s)
			need := map[int]bool{}
			for _, p := range s.Stage.Puts {
				need[h.Hosts[p.Host].Owner] = true
			}
			if e != api.OK || len(o) != len(need) || !slices.IsSorted(o) {
				t.Error(o, need)
			}
			for _, n := range o {
				if !need[n] {
					t.Error(o, need)
				}
			}
		}
	}
}

// same reports whether two worlds serve the same.
func same(a, b api.World) bool {
	has := func(l []api.Placed, p api.Placed) bool {
		return slices.ContainsFunc(l, func(x api.Placed) bool { return reflect.DeepEqual(x, p) })
	}
	for _, p := range a.Zones {
		if !has(b.Zones, p) {
			return false
		}
	}
	return len(a.Zones) == len(b.Zones)
}

// P35.1: just as many Puts, copies and zones as there may be, and memory of its own.
func TestEdges(t *testing.T) {
	h := example()
	name := func(i int) string { return "z" + string([]byte{byte('a' + i/26), byte('a' + i%26)}) }
	var puts, stops []api.Placed
	for i := range 501 {
		puts = append(puts, put(1, sample.Bare(name(i), 1, "h")))
		stops = append(stops, stop(1, name(i)))
	}
	w, _ := history.At(h, 0)
	for n, want := range map[int]api.Errno{499: api.OK, 500: api.ErrLimit, 501: api.ErrArg} {
		_, e := steps.Apply(h, []api.Step{step(5, puts[:n]...)})
		_, f := steps.World(w, api.Stage{Puts: puts[:n]})
		if e != want || f != want {
			t.Error(n, e, f)
		}
	}
	for n, want := range map[int]api.Errno{500: api.OK, 501: api.ErrArg} {
		_, e := steps.Apply(h, []api.Step{step(5, stops[:n]...)})
		_, f := steps.World(w, api.Stage{Puts: stops[:n]})
		_, g := steps.Owners(h, step(5, stops[:n]...))
		if e != want || f != want || g != want {
			t.Error(n, e, f, g)
		}
	}
	wide := w
	wide.Hosts = slices.Clone(w.Hosts)
	for i := range 5 {
		wide.Hosts = append(wide.Hosts, api.Host{Name: "c", Addr: 50 + i})
	}
	wide.Zones = nil
	for host := range 8 {
		for i := range 499 {
			wide.Zones = append(wide.Zones, api.Placed{Host: host, Zone: puts[i].Zone})
		}
	}
	for n, want := range map[int]api.Errno{8: api.OK, 9: api.ErrLimit} {
		var l []api.Placed
		for i := range n {
			l = append(l, put(8, puts[i].Zone))
		}
		if _, e := steps.World(wide, api.Stage{Puts: l}); e != want {
			t.Error(n, e)
		}
	}
	long := example()
	long.Hosts, long.Copies = wide.Hosts, nil
	for _, p := range wide.Zones {
		long.Copies = append(long.Copies, api.Copy{Host: p.Host, Until: 100, Zone: p.Zone})
	}
	for n, want := range map[int]api.Errno{8: api.OK, 9: api.ErrLimit} {
		var l []api.Placed
		for i := range n {
			l = append(l, put(8, puts[i].Zone))
		}
		if _, e := steps.Apply(long, []api.Step{step(5, l...)}); e != want {
			t.Error(n, e)
		}
	}
	x, _ := steps.Apply(h, []api.Step{step(40, puts[0])})
	y, _ := steps.World(w, api.Stage{Puts: puts[:1]})
	x.Hosts[0].Owner, x.Hints[0], x.Anchor.Data[0].N = 9, 9, 9
	x.Copies[0].Zone.Sets[0].Set.Data[0].Text, x.Copies[1].Zone.Sets[0].Set.Data[0].Text = "q", "q"
	y.Hosts[0].Owner, y.Hints[0], y.Anchor.Data[0].N = 9, 9, 9
	if h.Hosts[0].Owner == 9 || h.Hints[0] == 9 || h.Anchor.Data[0].N == 9 || h.Copies[0].Zone.Sets[0].Set.Data[0].Text == "q" || puts[0].Zone.Sets[0].Set.Data[0].Text == "q" || w.Hosts[0].Owner == 9 || w.Hints[0] == 9 || w.Anchor.Data[0].N == 9 || y.Zones[1].Zone.Sets[0].Set.Data[0].Text == "q" {
		t.Error("shared memory")
	}
}

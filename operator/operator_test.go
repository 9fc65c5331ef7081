package operator_test

import (
	"reflect"
	"slices"
	"testing"

	"nameplan/api"
	"nameplan/operator"
	"nameplan/sample"
	"nameplan/steps"
)

func plan(times ...int) []api.Step {
	var out []api.Step
	for i, t := range times {
		out = append(out, api.Step{At: t, Stage: api.Stage{Puts: []api.Placed{{Host: i % 4, Zone: sample.Bare("x", i, "s")}}}})
	}
	return out
}

func times(p api.Progress) []int {
	var out []int
	for _, s := range p.Steps {
		out = append(out, s.At)
	}
	return out
}

func begin(t *testing.T, l ...int) (api.History, api.Progress) {
	h := sample.Plain()
	p, e := operator.Begin(h, plan(l...))
	if e != api.OK || len(p.Done) > 0 || p.Paused || p.Over {
		t.Fatal(e)
	}
	return h, p
}

// P42.1: the example of the document.
func TestExample(t *testing.T) {
	h, p := begin(t, 10, 30, 60)
	for i, c := range []struct {
		r    api.Report
		want []int
	}{{api.Report{Kind: 1, At: 14}, []int{10, 34, 64}}, {api.Report{Step: 1, Kind: 2, At: 20, By: 6}, []int{10, 40, 70}}, {api.Report{Step: 1, Kind: 4, At: 41, By: 9}, []int{10, 50, 80}}, {api.Report{Step: 1, Kind: 1, At: 50}, []int{10, 50, 80}}, {api.Report{Step: 2, Kind: 3, At: 70}, []int{10, 50, 80}}} {
		var e api.Errno
		if p, e = operator.Take(h, p, c.r); e != api.OK || !slices.Equal(times(p), c.want) {
			t.Error(i, times(p), e)
		}
	}
	if !p.Over || !slices.Equal(p.Done, []int{14, 50}) {
		t.Error(p)
	}
	if q, e := operator.Take(h, p, api.Report{Step: 2, Kind: 1, At: 90}); e != api.ErrState || len(q.Steps) > 0 {
		t.Error(e)
	}
}

// P1, P42.1: errors.
func TestErrors(t *testing.T) {
	h, p := begin(t, 10, 30, 60)
	done, _ := operator.Take(h, p, api.Report{Kind: 1, At: 14})
	for i, c := range []struct {
		p api.Progress
		r api.Report
		e api.Errno
	}{
		{p, api.Report{Kind: 0, At: 14}, api.ErrArg}, {p, api.Report{Kind: 5, At: 14}, api.ErrArg}, {p, api.Report{Kind: 1, At: -1}, api.ErrArg}, {p, api.Report{Kind: 1, At: 200}, api.ErrArg}, {p, api.Report{Kind: 1, At: 14, By: 1}, api.ErrArg}, {p, api.Report{Kind: 2, At: 14}, api.ErrArg}, {p, api.Report{Kind: 4, At: 14, By: 10000001}, api.ErrArg}, {p, api.Report{Kind: 3, At: 14, By: 1}, api.ErrArg},
		{p, api.Report{Step: 1, Kind: 1, At: 14}, api.ErrState}, {p, api.Report{Step: -1, Kind: 1, At: 14}, api.ErrState}, {done, api.Report{Step: 0, Kind: 1, At: 40}, api.ErrState},
		{p, api.Report{Kind: 1, At: 9}, api.ErrTime}, {p, api.Report{Kind: 4, At: 9, By: 1}, api.ErrTime}, {p, api.Report{Kind: 2, At: 9, By: 1}, api.OK}, {done, api.Report{Step: 1, Kind: 2, At: 14, By: 1}, api.ErrTime}, {done, api.Report{Step: 1, Kind: 3, At: 14}, api.ErrTime}, {done, api.Report{Step: 1, Kind: 3, At: 15}, api.OK},
		{p, api.Report{Kind: 2, At: 9, By: 139}, api.OK}, {p, api.Report{Kind: 2, At: 9, By: 140}, api.ErrLate}, {p, api.Report{Kind: 1, At: 150}, api.ErrLate}, {p, api.Report{Kind: 2, At: 9, By: 10000000}, api.ErrLate},
		{api.Progress{Steps: p.Steps, Done: []int{9}}, api.Report{Step: 1, Kind: 2, At: 20, By: 1}, api.ErrArg}, {api.Progress{Steps: p.Steps, Done: []int{30}}, api.Report{Step: 1, Kind: 2, At: 40, By: 1}, api.ErrArg}, {api.Progress{Steps: p.Steps, Done: []int{12, 30, 60, 70}}, api.Report{Step: 1, Kind: 2, At: 40, By: 1}, api.ErrArg}, {api.Progress{Steps: p.Steps, Done: []int{10, 30, 60}}, api.Report{Step: 3, Kind: 2, At: 70, By: 1}, api.ErrState}, {api.Progress{Steps: p.Steps, Done: []int{10, 30, 200}}, api.Report{Step: 3, Kind: 2, At: 70, By: 1}, api.ErrArg}, {api.Progress{Steps: p.Steps, Done: []int{40, 35}}, api.Report{Step: 2, Kind: 2, At: 70, By: 1}, api.ErrArg},
	} {
		x, e := operator.Take(h, c.p, c.r)
		if e != c.e || (e == api.OK) != (len(x.Steps) > 0) {
			t.Error(i, e)
		}
	}
	_, e1 := operator.Begin(h, plan(5, 5))
	_, e2 := operator.Pause(api.Progress{Done: []int{1}})
	_, e3 := operator.Resume(api.Progress{Done: []int{1}}, 1)
	_, e4 := operator.Resume(p, -1)
	_, e5 := operator.Resume(p, 10000001)
	_, e6 := operator.Real(h, api.Progress{Steps: p.Steps, Done: []int{9}})
	_, e7 := operator.Pause(api.Progress{Steps: make([]api.Step, 401)})
	for i, e := range []api.Errno{e1, e2, e3, e4, e5, e6, e7} {
		if e != api.ErrArg {
			t.Error(i, e)
		}
	}
	paused := p
	paused.Paused = true
	over := p
	over.Over = true
	both := over
	both.Paused = true
	_, e1 = operator.Pause(paused)
	_, e2 = operator.Pause(over)
	_, e3 = operator.Resume(p, 5)
	_, e4 = operator.Resume(both, 5)
	_, e5 = operator.Take(h, paused, api.Report{Kind: 1, At: 14})
	for i, e := range []api.Errno{e1, e2, e3, e4, e5} {
		if e != api.ErrState {
			t.Error(i, e)
		}
	}
	_, e1 = operator.Resume(paused, 9999941)
	x, e2 := operator.Resume(paused, 9999940)
	if e1 != api.ErrLate || e2 != api.OK || x.Steps[2].At != 10000000 {
		t.Error(e1, e2)
	}
}

// P42.2 to P42.7: arbitrary reports.
func TestLaws(t *testing.T) {
	d := sample.New(46)
	h, p := begin(t, 10, 30, 60, 90)
	for _, at := range []int{10, 30, 60, 90} {
		var e api.Errno
		if p, e = operator.Take(h, p, api.Report{Step: len(p.Done), Kind: 1, At: at}); e != api.OK {
			t.Fatal(e)
		}
	}
	want, _ := steps.Apply(h, plan(10, 30, 60, 90))
	if got, e := operator.Real(h, p); e != api.OK || !reflect.DeepEqual(got, want) {
		t.Error(e)
	}
	for range 60 {
		h, p := begin(t, 10, 30, 60, 90)
		planned := []int{10, 30, 60, 90}
		now := 0
		for range 12 {
			now += d.Roll(20)
			r := api.Report{Step: len(p.Done), Kind: 1 + d.Roll(4), At: now}
			if r.Kind == 2 || r.Kind == 4 {
				r.By = 1 + d.Roll(9)
			}
			x, e := operator.Take(h, p, r)
			if e != api.OK {
				continue
			}
			real, e := operator.Real(h, x)
			if e != api.OK {
				t.Fatal("not valid", x)
			}
			if x.Over {
				before, _ := operator.Real(h, p)
				if !reflect.DeepEqual(real, before) {
					t.Error("a refusal changes the history")
				}
			}
			if !slices.Equal(x.Done[:len(p.Done)], p.Done) {
				t.Error("the past", p.Done, x.Done)
			}
			n := len(x.Done)
			for i := n; i < 4; i++ {
				if x.Steps[i].At < p.Steps[i].At || i > n && x.Steps[i].At-x.Steps[i-1].At != planned[i]-planned[i-1] {
					t.Error(times(p), times(x))
				}
			}
			if n > 0 && n < 4 && x.Steps[n].At-x.Done[n-1] < planned[n]-planned[n-1] {
				t.Error("too near", x)
			}
			y, e := operator.Pause(x)
			if x.Over {
				continue
			}
			z, f := operator.Resume(y, 0)
			later, g := operator.Resume(y, 5)
			if _, k := operator.Take(h, y, r); e != api.OK || f != api.OK || g != api.OK || k != api.ErrState || !reflect.DeepEqual(z, x) || n < 4 && later.Steps[3].At != x.Steps[3].At+5 {
				t.Error("pause", e, f, g, k)
			}
			p = x
		}
	}
}

// P42.1: the edges of all fields, and memory of its own.
func TestEdges(t *testing.T) {
	h, p := begin(t, 10, 30, 60)
	for at, want := range map[int]api.Errno{-1: api.ErrArg, 0: api.OK, 199: api.OK, 200: api.ErrArg} {
		if _, e := operator.Take(h, p, api.Report{Kind: 3, At: at}); e != want {
			t.Error(at, e)
		}
	}
	one, _ := operator.Begin(h, plan(10))
	for at, want := range map[int]api.Errno{9: api.ErrTime, 10: api.OK, 199: api.OK, 200: api.ErrArg} {
		if x, e := operator.Take(h, one, api.Report{Kind: 1, At: at}); e != want || e == api.OK && x.Done[0] != at {
			t.Error(at, e)
		}
	}
	for by, want := range map[int]api.Errno{0: api.ErrArg, 1: api.OK, 189: api.OK, 190: api.ErrLate, 10000000: api.ErrLate, 10000001: api.ErrArg} {
		if _, e := operator.Take(h, one, api.Report{Kind: 2, At: 5, By: by}); e != want {
			t.Error(by, e)
		}
		if _, e := operator.Take(h, one, api.Report{Kind: 4, At: 10, By: by}); e != want {
			t.Error(by, e)
		}
	}
	long := api.Progress{Steps: make([]api.Step, 400)}
	if _, e := operator.Pause(long); e != api.OK {
		t.Error(e)
	}
	if _, e := operator.Pause(api.Progress{Done: []int{}, Steps: nil}); e != api.OK {
		t.Error(e)
	}
	if _, e := operator.Pause(api.Progress{Steps: plan(5), Done: []int{5}}); e != api.OK {
		t.Error(e)
	}
	empty := api.Progress{Paused: true}
	for by, want := range map[int]api.Errno{-1: api.ErrArg, 0: api.OK, 10000000: api.OK, 10000001: api.ErrArg} {
		if _, e := operator.Resume(empty, by); e != want {
			t.Error(by, e)
		}
	}
	for i, c := range []struct {
		done []int
		good bool
	}{{[]int{10}, true}, {[]int{29}, true}, {[]int{30}, false}, {[]int{9}, false}, {[]int{10, 30, 60}, true}, {[]int{10, 30, 199}, true}, {[]int{10, 30, 200}, false}, {[]int{29, 30, 60}, true}, {[]int{30, 30, 60}, false}, {[]int{40, 50, 60}, true}, {[]int{40, 60}, false}} {
		x := api.Progress{Steps: p.Steps, Done: c.done}
		if _, e := operator.Real(h, x); (e == api.OK) != c.good {
			t.Error(i, e)
		}
	}
	bad := api.Progress{Steps: []api.Step{{At: 5}, {At: 4}}}
	if _, e := operator.Take(h, bad, api.Report{Kind: 3, At: 9}); e != api.ErrArg {
		t.Error(e)
	}
	if _, e := operator.Real(api.History{}, api.Progress{}); e != api.ErrArg {
		t.Error(e)
	}
	done, _ := operator.Take(h, p, api.Report{Kind: 1, At: 10})
	more, _ := operator.Take(h, done, api.Report{Step: 1, Kind: 2, At: 20, By: 1})
	paused, _ := operator.Pause(done)
	more.Done[0], paused.Done[0] = 99, 98
	more.Steps[0].Stage.Puts[0].Zone.Sets[0].Set.Data[0].Text = "q"
	if done.Done[0] != 10 || done.Steps[0].Stage.Puts[0].Zone.Sets[0].Set.Data[0].Text == "q" {
		t.Error("shared memory")
	}
}

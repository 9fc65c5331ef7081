package rollback_test

import (
	"reflect"
	"slices"
	"testing"

	"nameplan/api"
	"nameplan/history"
	"nameplan/plan"
	"nameplan/prove"
	"nameplan/rollback"
	"nameplan/sample"
	"nameplan/steps"
	"nameplan/value"
	"nameplan/waits"
)

func q(n string, typ int) api.Question { return api.Question{Name: n, Type: typ} }

var asked = []api.Question{q("w.x", 1), q("w.y", 1)}

func world(t *testing.T) api.World {
	w, e := history.At(sample.Plain(), 0)
	if e != api.OK {
		t.Fatal(e)
	}
	return w
}

func served(w api.World, host int, apex string) api.Zone {
	for _, p := range w.Zones {
		if p.Host == host && p.Zone.Apex == apex {
			return p.Zone
		}
	}
	return api.Zone{}
}

// P40.1: the example of the document.
func TestUndo(t *testing.T) {
	w := world(t)
	n := sample.Bare("x", 9, "s")
	s := api.Stage{Puts: []api.Placed{{Host: 1, Zone: n}, {Host: 2, Zone: n}}}
	u, e := rollback.Undo(w, s)
	if e != api.OK || len(u.Puts) != 2 || u.Puts[0].Host != 1 || !value.SameZone(u.Puts[0].Zone, served(w, 1, "x")) || u.Puts[1].Host != 2 || !reflect.DeepEqual(u.Puts[1].Zone, api.Zone{Apex: "x"}) {
		t.Error(u, e)
	}
	_, e = rollback.Undo(api.World{}, s)
	_, f := rollback.Undo(w, api.Stage{Puts: []api.Placed{{Host: 9, Zone: n}}})
	if e != api.ErrArg || f != e {
		t.Error(e, f)
	}
}

// P40.2, P40.3: a stage, and what takes it back.
func TestTwice(t *testing.T) {
	d := sample.New(44)
	for range 60 {
		w := world(t)
		var s api.Stage
		for host := range 4 {
			for _, apex := range []string{"x", "y", "."} {
				if d.Roll(3) == 0 {
					s.Puts = append(s.Puts, api.Placed{Host: host, Zone: sample.Bare(apex, d.Roll(9), "s")})
				} else if d.Roll(4) == 0 {
					s.Puts = append(s.Puts, api.Placed{Host: host, Zone: api.Zone{Apex: apex}})
				}
			}
		}
		u, e := rollback.Undo(w, s)
		after, _ := steps.World(w, s)
		back, f := steps.World(after, u)
		if e != api.OK || f != api.OK || len(back.Zones) != len(w.Zones) {
			t.Fatal(e, f)
		}
		for _, p := range w.Zones {
			if !value.SameZone(served(back, p.Host, p.Zone.Apex), p.Zone) {
				t.Error(p.Host, p.Zone.Apex)
			}
		}
		again, e := rollback.Undo(after, u)
		if e != api.OK || !slices.EqualFunc(again.Puts, s.Puts, func(a, b api.Placed) bool { return a.Host == b.Host && value.SameZone(a.Zone, b.Zone) }) {
			t.Error("twice", e)
		}
	}
}

// P40.4 to P40.7: schedules that are taken back.
func TestBack(t *testing.T) {
	h := sample.Plain()
	for i, x := range []api.Wish{{Kind: 1, Zone: "x", Hosts: []int{2, 3}}, {Kind: 2, Zone: "x", Key: api.Key{N: 8, Alg: 1}}, {Kind: 3, Zone: "x", Name: "w.x", Hosts: []int{2}}} {
		l, e := plan.Plan(h, x, asked, 5, 80)
		if e != api.OK {
			t.Fatal(e)
		}
		for done := range len(l) + 1 {
			from := 3
			if done > 0 {
				from = l[done-1].At + 1
			}
			b, e := rollback.Back(h, l, done, from, 190, asked)
			if e != api.OK || len(b) != done {
				t.Error(i, done, len(b), e)
				continue
			}
			cur, _ := steps.Apply(h, l[:done])
			next := from
			for k, s := range b {
				if at, ok, e := waits.Earliest(cur, s.Stage, asked, next, 190); at != s.At || !ok || e != api.OK {
					t.Error(i, done, k, at, s.At)
				}
				cur, _ = steps.Apply(cur, []api.Step{s})
				if c, ok, _ := prove.Prove(cur, asked, s.At, h.End); !ok {
					t.Error(i, done, k, c)
				}
				next = s.At + 1
			}
			if !steps.Valid(h, b) {
				t.Error(i, done, "not valid")
			}
			end, _ := history.At(cur, h.End-1)
			for _, s := range l[:done] {
				for _, p := range s.Stage.Puts {
					if !value.SameZone(served(end, p.Host, p.Zone.Apex), served(world(t), p.Host, p.Zone.Apex)) {
						t.Error(i, done, p.Host, p.Zone.Apex)
					}
				}
			}
			if done > 1 {
				if b, e := rollback.Back(h, l, done, from, from, asked); e != api.ErrLate || len(b) > 0 {
					t.Error(i, done, e)
				}
			}
		}
	}
}

// P1: errors.
func TestErrors(t *testing.T) {
	h := sample.Plain()
	l, _ := plan.Plan(h, api.Wish{Kind: 2, Zone: "x", Key: api.Key{N: 8, Alg: 1}}, asked, 5, 80)
	for i, f := range []func() ([]api.Step, api.Errno){
		func() ([]api.Step, api.Errno) { return rollback.Back(api.History{}, nil, 0, 1, 5, asked) },
		func() ([]api.Step, api.Errno) {
			return rollback.Back(h, []api.Step{{At: -1}}, 0, 1, 5, asked)
		},
		func() ([]api.Step, api.Errno) { return rollback.Back(h, l, -1, 100, 150, asked) },
		func() ([]api.Step, api.Errno) { return rollback.Back(h, l, 4, 100, 150, asked) },
		func() ([]api.Step, api.Errno) { return rollback.Back(h, l, 2, l[1].At, 150, asked) },
		func() ([]api.Step, api.Errno) { return rollback.Back(h, l, 0, -1, 150, asked) },
		func() ([]api.Step, api.Errno) { return rollback.Back(h, l, 1, 100, 99, asked) },
		func() ([]api.Step, api.Errno) { return rollback.Back(h, l, 1, 100, 200, asked) },
		func() ([]api.Step, api.Errno) {
			return rollback.Back(h, l, 1, 100, 150, slices.Repeat(asked, 26))
		},
		func() ([]api.Step, api.Errno) { return rollback.Back(h, l, 1, 100, 150, []api.Question{{}}) },
	} {
		if b, e := f(); e != api.ErrArg || len(b) > 0 {
			t.Error(i, e)
		}
	}
}

// P40.1: the edges of times and questions, and stages that cannot be taken back.
func TestEdges(t *testing.T) {
	h := sample.Plain()
	l, _ := plan.Plan(h, api.Wish{Kind: 2, Zone: "x", Key: api.Key{N: 8, Alg: 1}}, asked, 5, 80)
	fifty := slices.Repeat(asked, 25)
	for i, c := range []struct {
		done, from, limit int
		asked             []api.Question
		e                 api.Errno
	}{
		{0, 0, 0, nil, api.OK}, {0, 0, 199, nil, api.OK}, {0, 0, 200, nil, api.ErrArg}, {0, 5, 4, nil, api.ErrArg}, {0, -1, 4, nil, api.ErrArg}, {0, 0, 9, fifty, api.OK}, {0, 0, 9, append(fifty, asked[0]), api.ErrArg}, {0, 0, 9, []api.Question{q("x", 8)}, api.OK}, {0, 0, 9, []api.Question{q("x", 9)}, api.ErrArg}, {0, 0, 9, []api.Question{q("x", 0)}, api.ErrArg}, {0, 0, 9, []api.Question{asked[0], q("X", 1)}, api.ErrArg},
		{1, l[0].At, 199, asked, api.ErrArg}, {1, l[0].At + 1, 199, asked, api.OK}, {1, l[0].At + 1, l[0].At + 1, asked, api.OK}, {3, l[2].At + 1, 199, asked, api.OK},
	} {
		b, e := rollback.Back(h, l, c.done, c.from, c.limit, c.asked)
		if e != c.e || e == api.OK && len(b) != c.done {
			t.Error(i, len(b), e)
		}
	}
	b, _ := rollback.Back(h, l, 3, l[2].At+1, 199, asked)
	if again, e := rollback.Back(h, l, 3, l[2].At+1, b[2].At, asked); e != api.OK || !reflect.DeepEqual(again, b) {
		t.Error(e)
	}
	for _, limit := range []int{b[2].At - 1, b[1].At, b[1].At - 1, b[0].At} {
		if again, e := rollback.Back(h, l, 3, l[2].At+1, limit, asked); limit > l[2].At && (e != api.ErrLate || len(again) > 0) {
			t.Error(limit, e)
		}
	}
	// a name that the schedule made, and is protected, cannot be taken back
	made := []api.Step{{At: 10, Stage: api.Stage{Puts: []api.Placed{{Host: 1, Zone: sample.Sealed(sample.Numbered(sample.With(h.Copies[1].Zone, sample.Signed("n.x", 1, 10, sample.Nums(1))), 2), 0, 20000000, 2)}}}}}
	if b, e := rollback.Back(h, made, 1, 30, 190, []api.Question{q("n.x", 1)}); e != api.ErrLate || len(b) > 0 {
		t.Error(e)
	}
	if b, e := rollback.Back(h, made, 1, 30, 190, asked); e != api.OK || len(b) != 1 || b[0].At != 30 {
		t.Error(b, e)
	}
}

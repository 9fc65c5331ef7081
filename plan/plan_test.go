package plan_test

import (
	"reflect"
	"slices"
	"testing"

	"nameplan/api"
	"nameplan/history"
	"nameplan/plan"
	"nameplan/prove"
	"nameplan/sample"
	"nameplan/steps"
	"nameplan/waits"
	"nameplan/wish"
)

func q(n string, typ int) api.Question { return api.Question{Name: n, Type: typ} }

var asked = []api.Question{q("w.x", 1), q("w.y", 1)}

var wishes = []api.Wish{
	{Kind: 1, Zone: "x", Hosts: []int{2, 3}}, {Kind: 2, Zone: "x", Key: api.Key{N: 8, Alg: 1}}, {Kind: 3, Zone: "y", Name: "w.y", Hosts: []int{0}},
	{Kind: 4, Zone: "x", Name: "w.x", Hosts: []int{2}, Key: api.Key{N: 9, Alg: 1}}, {Kind: 2, Zone: "x", Key: api.Key{N: 2, Alg: 1}}, {Kind: 3, Zone: "x", Name: "w.x", Hosts: []int{2}},
}

// P39.2 to P39.5, P39.7: schedules for all kinds of wishes.
func TestPlan(t *testing.T) {
	for i, x := range wishes {
		h := sample.Plain()
		l, e := plan.Plan(h, x, asked, 5, 180)
		if e == api.ErrLate {
			refused(t, h, x, 5, 180)
			continue
		}
		if e != api.OK {
			t.Fatal(i, e)
		}
		w, _ := history.At(h, 5)
		stages, _ := wish.Stages(w, x, 0, 20000000)
		if len(l) != len(stages) || i == 4 && len(l) != 3 {
			t.Error(i, len(l))
		}
		from := 5
		for k, s := range l {
			if s.At < from || s.At > 180 || !reflect.DeepEqual(s.Stage, stages[k]) {
				t.Error(i, k, s.At)
			}
			before, _ := steps.Apply(h, l[:k])
			if at, ok, e := waits.Earliest(before, s.Stage, asked, from, 180); at != s.At || !ok || e != api.OK {
				t.Error(i, k, at)
			}
			after, e := steps.Apply(h, l[:k+1])
			if c, ok, f := prove.Prove(after, asked, s.At, h.End); e != api.OK || f != api.OK || !ok {
				t.Error(i, k, c)
			}
			from = s.At + 1
		}
		end, _ := steps.Apply(h, l)
		last, _ := history.At(end, from-1)
		if ok, e := wish.Done(last, x); !ok || e != api.OK {
			t.Error(i, "is not fulfilled", e)
		}
		if again, e := plan.Plan(h, x, asked, 5, 190); e != api.OK || !reflect.DeepEqual(again, l) {
			t.Error(i, e)
		}
		if _, _, e := plan.Refuse(h, x, asked, 5, 180); e != api.ErrState {
			t.Error(i, e)
		}
		if len(l) > 1 && l[1].At > 6 {
			refused(t, h, x, 5, l[1].At-1)
		}
		if len(l) > 1 {
			if n, c, e := plan.Refuse(h, x, asked, 5, 5); e != api.OK || n != 1 || c.Kind != 0 {
				t.Error(i, n, c, e)
			}
		}
	}
}

// refused checks that a wish is refused, with a clash.
func refused(t *testing.T, h api.History, x api.Wish, from, limit int) {
	t.Helper()
	l, e := plan.Plan(h, x, asked, from, limit)
	n, c, f := plan.Refuse(h, x, asked, from, limit)
	if e != api.ErrLate || len(l) > 0 || f != api.OK || n < 0 || c.Kind == 0 {
		t.Error(e, n, c, f)
	}
}

// P39.6: the example of the document.
func TestRefuse(t *testing.T) {
	h := sample.Rolled()
	x := api.Wish{Kind: 2, Zone: "x", Key: api.Key{N: 7, Alg: 1}}
	if l, e := plan.Plan(h, x, []api.Question{q("x", 4)}, 60, 90); e != api.ErrLate || len(l) > 0 {
		t.Error(l, e)
	}
	n, c, e := plan.Refuse(h, x, []api.Question{q("x", 4)}, 60, 90)
	if n != 0 || c.Kind != api.ClashAnchor || c.Zone != "x" || e != api.OK {
		t.Error(n, c, e)
	}
	if l, e := plan.Plan(h, x, []api.Question{q(".", 4)}, 60, 90); e != api.OK || len(l) != 3 {
		t.Error(len(l), e)
	}
}

// P1: errors.
func TestErrors(t *testing.T) {
	h := sample.Plain()
	for i, c := range []struct {
		h           api.History
		x           api.Wish
		l           []api.Question
		from, limit int
		e           api.Errno
	}{
		{api.History{}, wishes[0], asked, 5, 50, api.ErrArg}, {h, wishes[0], asked, -1, 50, api.ErrArg}, {h, wishes[0], asked, 5, 4, api.ErrArg}, {h, wishes[0], asked, 5, 200, api.ErrArg}, {h, wishes[0], slices.Repeat(asked, 26), 5, 50, api.ErrArg}, {h, wishes[0], []api.Question{{}}, 5, 50, api.ErrArg},
		{h, api.Wish{}, asked, 5, 50, api.ErrArg}, {h, api.Wish{Kind: 3, Zone: "x", Name: "q.x", Hosts: []int{1}}, asked, 5, 50, api.ErrNone}, {h, api.Wish{Kind: 2, Zone: "x", Key: api.Key{N: 2, Alg: 2}}, asked, 5, 50, api.ErrClash},
	} {
		l, e := plan.Plan(c.h, c.x, c.l, c.from, c.limit)
		n, x, f := plan.Refuse(c.h, c.x, c.l, c.from, c.limit)
		if e != c.e || f != c.e || len(l) > 0 || n != 0 || x.Kind != 0 {
			t.Error(i, e, f)
		}
	}
}

// P39.1: the edges of times and questions, and which error comes first.
func TestEdges(t *testing.T) {
	h := sample.Plain()
	none := api.Wish{Kind: 3, Zone: "x", Name: "q.x", Hosts: []int{1}}
	fifty := slices.Repeat(asked, 25)
	for i, c := range []struct {
		x           api.Wish
		l           []api.Question
		from, limit int
		e           api.Errno
	}{
		{none, asked, 5, 50, api.ErrNone}, {none, asked, 0, 0, api.ErrNone}, {none, asked, 5, 5, api.ErrNone}, {none, asked, 5, 199, api.ErrNone}, {none, asked, 5, 200, api.ErrArg}, {none, asked, 5, 4, api.ErrArg}, {none, asked, -1, 4, api.ErrArg}, {none, fifty, 5, 50, api.ErrNone}, {none, append(fifty, asked[0]), 5, 50, api.ErrArg},
		{none, []api.Question{q("x", 0)}, 5, 50, api.ErrArg}, {none, []api.Question{q("x", 9)}, 5, 50, api.ErrArg}, {none, []api.Question{q("x", 8)}, 5, 50, api.ErrNone}, {none, []api.Question{asked[0], q("X", 1)}, 5, 50, api.ErrArg},
	} {
		l, e := plan.Plan(h, c.x, c.l, c.from, c.limit)
		n, x, f := plan.Refuse(h, c.x, c.l, c.from, c.limit)
		if e != c.e || f != c.e || len(l) > 0 || n != 0 || x.Kind != 0 {
			t.Error(i, e, f)
		}
	}
	// the last stage at just the limit, and one before it
	x := wishes[1]
	l, _ := plan.Plan(h, x, asked, 5, 180)
	if again, e := plan.Plan(h, x, asked, 5, l[2].At); e != api.OK || !reflect.DeepEqual(again, l) {
		t.Error(e)
	}
	if n, c, e := plan.Refuse(h, x, asked, 5, l[2].At-1); e != api.OK || n != 2 || c.Kind == 0 || c.Span.From != l[1].At+1 {
		t.Error(n, c, e)
	}
	if n, c, e := plan.Refuse(h, x, asked, 5, l[1].At); e != api.OK || n != 2 || c.Kind != 0 {
		t.Error(n, c, e)
	}
}

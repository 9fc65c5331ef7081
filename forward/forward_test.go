package forward_test

import (
	"reflect"
	"slices"
	"testing"

	"nameplan/api"
	"nameplan/forward"
	"nameplan/sample"
)

var question = api.Question{Name: "x", Type: 1}

func begin(t *testing.T, ups ...int) (api.Forwarder, api.Message) {
	t.Helper()
	f, m, e := forward.Begin(question, 9, ups, 65535, 10)
	if e != api.OK {
		t.Fatal(e)
	}
	return f, m
}

func answer(q api.Message, kind int) api.Message {
	m := api.Message{Kind: 2, ID: q.ID, From: q.To, To: q.From, Q: q.Q, Answer: api.Answer{Kind: kind}}
	if kind == api.AnsData {
		m.Answer.Sets = []api.Signed{sample.Signed("x", 1, 5, sample.Nums(7))}
	}
	return m
}

// P29.1, P29.3, P29.6, P29.7: rounds, patience, and the end.
func TestRounds(t *testing.T) {
	f, m := begin(t, 2, 3)
	if m.To != 2 || m.ID != 65535 || f.Until != 15 || f.At != 0 || f.Tried != 0 {
		t.Error(f, m)
	}
	var sent []int
	for now := 10; now < 70; now++ {
		g, l, e := forward.Wait(f, now)
		if e != api.OK || (now-10)%5 != 0 && (len(l) > 0 || !reflect.DeepEqual(f, g)) {
			t.Error(now, l, e)
		}
		for _, m := range l {
			sent = append(sent, m.To, m.ID)
			if m.From != 9 || m.Q != question || m.Kind != 1 {
				t.Error(m)
			}
		}
		if again, l, e := forward.Wait(g, now); e != api.OK || len(l) > 0 || !reflect.DeepEqual(again, g) {
			t.Error("not valid, or sent again", e)
		}
		f = g
		if f.Dark != (now >= 50) {
			t.Error(now, f)
		}
	}
	if !slices.Equal(sent, []int{3, 0, 2, 1, 3, 2, 2, 3, 3, 4, 2, 5, 3, 6}) || f.Tried != 8 {
		t.Error(sent, f)
	}
}

// P29.2, P29.4, P29.5: what is taken.
func TestTake(t *testing.T) {
	f, m := begin(t, 2, 3)
	for i, change := range []func(m *api.Message){func(m *api.Message) { m.ID = 0 }, func(m *api.Message) { m.From = 3 }, func(m *api.Message) { m.To = 8 }, func(m *api.Message) { m.Q.Name = "y" }, func(m *api.Message) { m.Q.Type = 2 }, func(m *api.Message) { m.Kind, m.Answer = 1, api.Answer{} }} {
		a := answer(m, api.AnsData)
		change(&a)
		if g, took, e := forward.Take(f, a, 11); took || e != api.OK || !reflect.DeepEqual(f, g) {
			t.Error(i, took, e)
		}
	}
	for now, want := range map[int]bool{10: true, 14: true, 15: false} {
		a := answer(m, api.AnsData)
		g, took, e := forward.Take(f, a, now)
		if took != want || e != api.OK || g.Done != want || want && !reflect.DeepEqual(g.Answer, a.Answer) || !want && !reflect.DeepEqual(f, g) {
			t.Error(now, took, e)
		}
		if !want {
			continue
		}
		later, l, e := forward.Wait(g, 50)
		if e != api.OK || len(l) > 0 || !reflect.DeepEqual(later, g) {
			t.Error(l, e)
		}
		if later, took, e := forward.Take(g, answer(m, api.AnsNoName), now); took || e != api.OK || !reflect.DeepEqual(later, g) {
			t.Error(took, e)
		}
	}
	g, took, e := forward.Take(f, answer(m, api.AnsRefused), 12)
	if !took || e != api.OK || g.Done || g.Until != 12 || g.Answer.Kind != 0 {
		t.Error(g, took, e)
	}
	h, l, e := forward.Wait(g, 12)
	if e != api.OK || len(l) != 1 || l[0].To != 3 || l[0].ID != 0 || h.Until != 17 || h.Tried != 1 {
		t.Error(h, l, e)
	}
	if _, took, _ := forward.Take(h, answer(l[0], api.AnsData), 16); !took {
		t.Error("in time")
	}
	if _, took, _ := forward.Take(h, answer(m, api.AnsData), 16); took {
		t.Error("an old answer")
	}
}

// P1, P29.1: errors.
func TestErrors(t *testing.T) {
	for i, c := range []struct {
		q       api.Question
		own     int
		ups     []int
		id, now int
	}{{api.Question{}, 9, []int{2}, 1, 1}, {question, 0, []int{2}, 1, 1}, {question, 9, nil, 1, 1}, {question, 9, []int{9}, 1, 1}, {question, 9, []int{2, 2}, 1, 1}, {question, 9, []int{1000001}, 1, 1}, {question, 9, []int{1, 2, 3, 4, 5, 6, 7, 8, 10}, 1, 1}, {question, 9, []int{2}, -1, 1}, {question, 9, []int{2}, 65536, 1}, {question, 9, []int{2}, 1, -1}, {question, 9, []int{2}, 1, 10000001}, {question, 9, []int{2}, 1, 1<<63 - 1}} {
		if f, m, e := forward.Begin(c.q, c.own, c.ups, c.id, c.now); e != api.ErrArg || f.Own != 0 || m.Kind != 0 {
			t.Error(i, e)
		}
	}
	for i, change := range []func(f *api.Forwarder){
		func(f *api.Forwarder) { f.At = 2 }, func(f *api.Forwarder) { f.At = -1 }, func(f *api.Forwarder) { f.Tried = 8 }, func(f *api.Forwarder) { f.Tried = -1 }, func(f *api.Forwarder) { f.Dark = true }, func(f *api.Forwarder) { f.Until = 10000006 }, func(f *api.Forwarder) { f.Until = -1 }, func(f *api.Forwarder) { f.Done = true },
		func(f *api.Forwarder) { f.Answer.Kind = 1 }, func(f *api.Forwarder) { f.Done, f.Answer.Kind = true, 7 }, func(f *api.Forwarder) { f.Done, f.Dark, f.Tried, f.Answer.Kind = true, true, 8, 1 }, func(f *api.Forwarder) { f.Ups = nil }, func(f *api.Forwarder) { f.ID = 65536 },
	} {
		f, m := begin(t, 2, 3)
		change(&f)
		g, took, e := forward.Take(f, answer(m, 1), 11)
		h, l, k := forward.Wait(f, 11)
		if e != api.ErrArg || k != e || took || len(l) > 0 || g.Own+h.Own != 0 {
			t.Error(i, e, k)
		}
	}
	f, m := begin(t, 2, 3)
	_, _, e1 := forward.Take(f, api.Message{}, 11)
	_, _, e2 := forward.Take(f, m, -1)
	_, _, e3 := forward.Wait(f, 10000001)
	if e1 != api.ErrArg || e2 != e1 || e3 != e1 {
		t.Error(e1, e2, e3)
	}
}

// P29.1: the edges of each field, and memory of its own.
func TestEdges(t *testing.T) {
	for i, c := range []struct {
		own  int
		ups  []int
		id   int
		now  int
		good bool
	}{
		{1, []int{2}, 0, 0, true}, {1000000, []int{2}, 65535, 10000000, true}, {0, []int{2}, 0, 0, false}, {1000001, []int{2}, 0, 0, false}, {9, []int{1, 1000000}, 0, 0, true}, {9, []int{0}, 0, 0, false}, {9, []int{2, 0}, 0, 0, false}, {9, []int{2, 1000001}, 0, 0, false}, {9, []int{2, 3, 2}, 0, 0, false}, {9, []int{2, 9}, 0, 0, false}, {9, []int{1, 2, 3, 4, 5, 6, 7, 8}, 0, 0, true}, {9, []int{}, 0, 0, false}, {9, []int{2}, -1, 0, false}, {9, []int{2}, 65536, 0, false}, {9, []int{2}, 0, -1, false}, {9, []int{2}, 0, 10000001, false},
	} {
		f, m, e := forward.Begin(question, c.own, c.ups, c.id, c.now)
		if (e == api.OK) != c.good || c.good && (f.Until != c.now+5 || m.From != c.own || m.To != c.ups[0] || m.ID != c.id) {
			t.Error(i, e)
		}
	}
	f, m := begin(t, 2, 3)
	for now, want := range map[int]api.Errno{-1: api.ErrArg, 0: api.OK, 10000000: api.OK, 10000001: api.ErrArg} {
		_, _, e := forward.Wait(f, now)
		_, _, k := forward.Take(f, answer(m, 1), now)
		if e != want || k != want {
			t.Error(now, e, k)
		}
	}
	for i, c := range []struct {
		change func(f *api.Forwarder)
		good   bool
	}{
		{func(f *api.Forwarder) { f.Until = 0 }, true}, {func(f *api.Forwarder) { f.Until = 10000005 }, true}, {func(f *api.Forwarder) { f.Until = 10000006 }, false}, {func(f *api.Forwarder) { f.Until = -1 }, false}, {func(f *api.Forwarder) { f.Tried = 7 }, true}, {func(f *api.Forwarder) { f.Tried = 8 }, false}, {func(f *api.Forwarder) { f.Tried, f.Dark = 8, true }, true}, {func(f *api.Forwarder) { f.Tried, f.Dark = 7, true }, false}, {func(f *api.Forwarder) { f.Tried, f.Dark = 9, true }, false}, {func(f *api.Forwarder) { f.At = 1 }, true}, {func(f *api.Forwarder) { f.ID = 0 }, true}, {func(f *api.Forwarder) { f.ID = -1 }, false},
		{func(f *api.Forwarder) { f.Done, f.Answer.Kind = true, 1 }, true}, {func(f *api.Forwarder) { f.Done, f.Answer = true, api.Answer{Kind: 1, Cut: "x"} }, false}, {func(f *api.Forwarder) { f.Answer.Cut = "x" }, false}, {func(f *api.Forwarder) { f.Answer.Sets = []api.Signed{sample.Signed("x", 1, 5, sample.Nums(7))} }, false}, {func(f *api.Forwarder) { f.Q.Type = 9 }, false}, {func(f *api.Forwarder) { f.Own = 2 }, false}, {func(f *api.Forwarder) { f.Own = 0 }, false},
	} {
		x := f
		c.change(&x)
		if _, _, e := forward.Wait(x, 5); (e == api.OK) != c.good {
			t.Error(i, e)
		}
	}
	ups := []int{2, 3}
	g, m, _ := forward.Begin(question, 9, ups, 1, 10)
	a := answer(m, api.AnsData)
	done, _, _ := forward.Take(g, a, 11)
	again, _, _ := forward.Wait(done, 20)
	a.Answer.Sets[0].Set.Data[0].N, ups[0], g.Ups[1] = 99, 99, 98
	done.Answer.Sets[0].Set.Data[0].M = 97
	if done.Answer.Sets[0].Set.Data[0].N == 99 || g.Ups[0] == 99 || done.Ups[1] == 98 || again.Answer.Sets[0].Set.Data[0].M == 97 {
		t.Error("shared memory")
	}
}

package net_test

import (
	"reflect"
	"slices"
	"testing"

	"nameplan/api"
	"nameplan/net"
	"nameplan/packet"
	"nameplan/sample"
)

func query(id, to int) api.Message {
	return api.Message{Kind: 1, ID: id, From: 9, To: to, Q: api.Question{Name: "x", Type: 1}}
}

func answer(q api.Message) api.Message {
	return api.Message{Kind: 2, ID: q.ID, From: q.To, To: q.From, Q: q.Q, Answer: api.Answer{Kind: 1, Sets: []api.Signed{sample.Signed("x", 1, 5, sample.Nums(7))}}}
}

var fate = api.Fate{Copies: 1}

// P27.1: the example of the document, and errors.
func TestExample(t *testing.T) {
	n, e := net.Send(api.Net{}, query(1, 2), 10, api.Fate{Delay: 5, Copies: 2})
	if e != api.OK || n.Seq != 2 || len(n.List) != 2 {
		t.Fatal(n, e)
	}
	if _, l, e := net.Receive(n, 2, 14); e != api.OK || len(l) > 0 {
		t.Error(l, e)
	}
	if _, l, e := net.Receive(n, 2, 15); e != api.OK || !reflect.DeepEqual(l, []api.Message{query(1, 2), query(1, 2)}) {
		t.Error(l, e)
	}
	for i, c := range []struct {
		n   api.Net
		m   api.Message
		now int
		f   api.Fate
		e   api.Errno
	}{
		{n, api.Message{}, 1, fate, api.ErrArg}, {n, query(1, 2), -1, fate, api.ErrArg}, {n, query(1, 2), 20000001, fate, api.ErrArg}, {n, query(1, 2), 1, api.Fate{}, api.ErrArg}, {n, query(1, 2), 1, api.Fate{Copies: 9}, api.ErrArg}, {n, query(1, 2), 1, api.Fate{Copies: 1, Delay: 100001}, api.ErrArg}, {n, query(1, 2), 1, api.Fate{Copies: 1, Delay: -1}, api.ErrArg},
		{n, query(1, 2), 1, api.Fate{Copies: 1, Forge: 3}, api.ErrArg}, {n, query(1, 2), 1, api.Fate{Copies: 1, Forge: 4}, api.ErrArg}, {n, answer(query(1, 2)), 1, api.Fate{Copies: 1, Forge: 3}, api.OK}, {n, query(1, 2), 1, api.Fate{Copies: 1, Forge: 3, Lost: true}, api.ErrArg},
		{n, query(1, 2), 20000000, api.Fate{Copies: 1, Delay: 1}, api.ErrLimit}, {n, query(1, 2), 20000000, api.Fate{Copies: 1, Delay: 1, Lost: true}, api.OK}, {api.Net{Seq: 1000000000}, query(1, 2), 1, fate, api.ErrLimit}, {api.Net{Seq: 1000000001}, query(1, 2), 1, fate, api.ErrArg}, {api.Net{Seq: 999999999}, query(1, 2), 1, fate, api.OK},
		{api.Net{List: n.List}, query(1, 2), 1, fate, api.ErrArg}, {api.Net{Seq: 5, List: []api.Transit{n.List[1], n.List[0]}}, query(1, 2), 1, fate, api.ErrArg}, {api.Net{Seq: 5, List: []api.Transit{n.List[1], n.List[1]}}, query(1, 2), 1, fate, api.ErrArg}, {api.Net{Seq: 5, List: []api.Transit{{At: 1, Seq: 1, M: query(1, 2)}, {At: 2, Seq: 1, M: query(1, 2)}}}, query(1, 2), 1, fate, api.ErrArg},
	} {
		x, e := net.Send(c.n, c.m, c.now, c.f)
		if e != c.e || e != api.OK && len(x.List) > 0 {
			t.Error(i, e)
		}
	}
	full := api.Net{}
	for range 25 {
		full, _ = net.Send(full, query(1, 2), 0, api.Fate{Copies: 8})
	}
	if x, e := net.Send(full, query(1, 2), 0, fate); len(full.List) != 200 || e != api.ErrFull || x.Seq != 0 {
		t.Error(e)
	}
	_, _, e = net.Receive(n, 0, 1)
	_, _, f := net.Receive(n, 1, -1)
	_, _, g := net.Receive(api.Net{Seq: -1}, 1, 1)
	if e != api.ErrArg || f != e || g != e || !net.Valid(api.Net{}) {
		t.Error(e, f, g)
	}
}

// P27.2 to P27.5, P27.7: what arrives when, in which order, and how often.
func TestLaws(t *testing.T) {
	d := sample.New(35)
	for range 60 {
		var n api.Net
		want := map[int]int{}
		var sent []api.Transit
		for now := range 20 {
			f := api.Fate{Lost: d.Roll(4) == 0, Delay: d.Roll(9), Copies: 1 + d.Roll(3)}
			m := query(now, 2+d.Roll(2))
			old := n
			n, _ = net.Send(n, m, now, f)
			if !net.Valid(n) || f.Lost != reflect.DeepEqual(n, old) || !f.Lost && len(n.List) != len(old.List)+f.Copies {
				t.Fatal(n)
			}
			if !f.Lost {
				want[now] = f.Copies
				for range f.Copies {
					sent = append(sent, api.Transit{At: now + f.Delay, Seq: len(sent), M: m})
				}
			}
			after, l, e := net.Receive(n, 2, now)
			if e != api.OK || len(after.List)+len(l) != len(n.List) || !net.Valid(after) {
				t.Fatal(e)
			}
			due := slices.DeleteFunc(slices.Clone(sent), func(x api.Transit) bool { return x.At > now || x.M.To != 2 })
			slices.SortStableFunc(due, func(a, b api.Transit) int { return a.At - b.At })
			sent = slices.DeleteFunc(sent, func(x api.Transit) bool { return x.At <= now && x.M.To == 2 })
			for i, m := range l {
				if !reflect.DeepEqual(m, due[i].M) || len(due) != len(l) {
					t.Error(l, due)
				}
			}
			if _, again, _ := net.Receive(after, 2, now); len(again) > 0 {
				t.Error("twice")
			}
			n = after
		}
	}
}

// P27.6: forgeries.
func TestForgery(t *testing.T) {
	for _, q := range []api.Message{query(1, 2), query(65535, 1000000)} {
		a := answer(q)
		for forge := range 4 {
			n, e := net.Send(api.Net{}, a, 0, api.Fate{Copies: 1, Forge: forge})
			if e != api.OK {
				t.Fatal(e)
			}
			m := n.List[0].M
			if packet.Match(q, m) != (forge == 0 || forge == 3) || !packet.Valid(m) || (forge == 3) != (len(m.Answer.Sets) == 0) || forge == 3 && m.Answer.Kind != api.AnsNoName {
				t.Error(forge, m)
			}
		}
	}
	n, _ := net.Send(api.Net{}, query(65535, 2), 0, api.Fate{Copies: 1, Forge: 1})
	if n.List[0].M.ID != 0 {
		t.Error(n)
	}
	m := query(1, 2)
	m.From = 1000000
	if n, _ := net.Send(api.Net{}, m, 0, api.Fate{Copies: 1, Forge: 2}); n.List[0].M.From != 1 {
		t.Error(n)
	}
}

// P27.1: the edges of each field, and memory of its own.
func TestEdges(t *testing.T) {
	one, _ := net.Send(api.Net{Seq: 7}, answer(query(1, 2)), 5, fate)
	for i, c := range []struct {
		change func(n *api.Net)
		good   bool
	}{
		{func(n *api.Net) {}, true}, {func(n *api.Net) { n.List[0].At = -1 }, false}, {func(n *api.Net) { n.List[0].At = 20000000 }, true}, {func(n *api.Net) { n.List[0].At = 20000001 }, false}, {func(n *api.Net) { n.List[0].Seq = -1 }, false}, {func(n *api.Net) { n.List[0].Seq = 0 }, true}, {func(n *api.Net) { n.List[0].Seq = 8 }, false}, {func(n *api.Net) { n.Seq = 7 }, false}, {func(n *api.Net) { n.Seq = 1000000000 }, true}, {func(n *api.Net) { n.Seq = 1000000001 }, false}, {func(n *api.Net) { n.List[0].M.ID = -1 }, false},
		{func(n *api.Net) { n.List = append(n.List, api.Transit{At: 5, Seq: 6, M: query(1, 2)}) }, false}, {func(n *api.Net) { n.List = append(n.List, api.Transit{At: 6, Seq: 6, M: query(1, 2)}) }, true}, {func(n *api.Net) { n.List = append(n.List, api.Transit{At: 4, Seq: 6, M: query(1, 2)}) }, false}, {func(n *api.Net) { n.List = append(n.List, api.Transit{At: 6, Seq: 7, M: query(1, 2)}) }, false},
	} {
		n := api.Net{Seq: one.Seq, List: slices.Clone(one.List)}
		c.change(&n)
		_, _, e := net.Receive(n, 2, 5)
		_, f := net.Send(n, query(1, 2), 5, api.Fate{Lost: true, Copies: 1})
		if net.Valid(n) != c.good || (e == api.OK) != c.good || f != e {
			t.Error(i, e, f)
		}
	}
	for addr, want := range map[int]api.Errno{0: api.ErrArg, 1: api.OK, 1000000: api.OK, 1000001: api.ErrArg} {
		if _, _, e := net.Receive(one, addr, 5); e != want {
			t.Error(addr, e)
		}
	}
	for now, want := range map[int]api.Errno{-1: api.ErrArg, 0: api.OK, 20000000: api.OK, 20000001: api.ErrArg} {
		_, _, e := net.Receive(one, 2, now)
		_, f := net.Send(one, query(1, 2), now, fate)
		if e != want || f != want {
			t.Error(now, e, f)
		}
	}
	for i, c := range []struct {
		f api.Fate
		e api.Errno
	}{{api.Fate{Copies: 8}, api.OK}, {api.Fate{Copies: 9}, api.ErrArg}, {api.Fate{Copies: 0}, api.ErrArg}, {api.Fate{Copies: 1, Delay: 100000}, api.OK}, {api.Fate{Copies: 1, Delay: 100001}, api.ErrArg}, {api.Fate{Copies: 1, Forge: 2}, api.OK}, {api.Fate{Copies: 1, Forge: -1}, api.ErrArg}} {
		if n, e := net.Send(one, query(1, 2), 5, c.f); e != c.e || e == api.OK && len(n.List) != 1+c.f.Copies {
			t.Error(i, e)
		}
	}
	if n, e := net.Send(api.Net{Seq: 999999992}, query(1, 2), 5, api.Fate{Copies: 8}); e != api.OK || n.Seq != 1000000000 {
		t.Error(e)
	}
	if _, e := net.Send(api.Net{Seq: 999999993}, query(1, 2), 5, api.Fate{Copies: 8}); e != api.ErrLimit {
		t.Error(e)
	}
	if n, e := net.Send(one, query(1, 2), 19999999, api.Fate{Copies: 1, Delay: 1}); e != api.OK || n.List[1].At != 20000000 {
		t.Error(e)
	}
	var full api.Net
	for i := range 201 {
		full.List = append(full.List, api.Transit{At: i, Seq: i, M: query(1, 2)})
	}
	full.Seq = 500
	if net.Valid(full) || !net.Valid(api.Net{Seq: 500, List: full.List[:200]}) {
		t.Error("200 packets")
	}
	m := answer(query(1, 2))
	two, _ := net.Send(api.Net{}, m, 5, api.Fate{Copies: 2})
	more, _ := net.Send(two, m, 5, fate)
	_, l, _ := net.Receive(two, 9, 5)
	two.List[0].M.Answer.Sets[0].Set.Data[0].N = 99
	if m.Answer.Sets[0].Set.Data[0].N == 99 || two.List[1].M.Answer.Sets[0].Set.Data[0].N == 99 || more.List[0].M.Answer.Sets[0].Set.Data[0].N == 99 || l[0].Answer.Sets[0].Set.Data[0].N == 99 {
		t.Error("shared memory")
	}
}

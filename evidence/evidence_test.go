package evidence_test

import (
	"reflect"
	"slices"
	"testing"

	"nameplan/api"
	"nameplan/evidence"
	"nameplan/history"
	"nameplan/name"
	"nameplan/sample"
	"nameplan/steps"
	"nameplan/value"
	"nameplan/world"
)

func q(n string, typ int) api.Question { return api.Question{Name: n, Type: typ} }

// example returns evidence in which the host 1 changes its version of x at 10.
func example() api.Evidence {
	h := sample.Plain()
	h.Drift = 2
	n := sample.Sealed(sample.Numbered(h.Copies[1].Zone, 2), 0, 20000000, 2)
	s := []api.Step{{At: 10, Stage: api.Stage{Puts: []api.Placed{{Host: 1, Zone: n}, {Host: 2, Zone: n}}}}, {At: 30, Stage: api.Stage{Puts: []api.Placed{{Host: 2, Zone: api.Zone{Apex: "x"}}}}}}
	return api.Evidence{Before: h, Steps: s, Claims: honest(s)}
}

func honest(l []api.Step) []api.Claim {
	var out []api.Claim
	for _, s := range l {
		for _, p := range s.Stage.Puts {
			out = append(out, api.Claim{Host: p.Host, At: s.At, Zone: p.Zone})
		}
	}
	return out
}

func answer(h api.History, host, at int, x api.Question) api.Answer {
	w, _ := history.At(h, at)
	a, _ := world.Ask(w, h.Hosts[host].Addr, x)
	return a
}

// P43.1, P43.2, P43.3: the example of the document.
func TestExample(t *testing.T) {
	e := example()
	c, f := evidence.Claimed(e)
	p, g := evidence.Planned(e)
	want, _ := steps.Apply(e.Before, e.Steps)
	if !evidence.Valid(e) || f != api.OK || g != api.OK || !reflect.DeepEqual(c, p) || !reflect.DeepEqual(p, want) {
		t.Fatal(f, g)
	}
	old := api.Heard{At: 12, Addr: 2, Q: q("x", 4), Answer: answer(e.Before, 1, 5, q("x", 4))}
	if l, f := evidence.Heard(c, old); f != api.OK || len(l) > 0 {
		t.Error(l, f)
	}
	c.Drift = 3
	if l, f := evidence.Heard(c, old); f != api.OK || !slices.Equal(l, []int{1}) {
		t.Error(l, f)
	}
	old.Answer = answer(p, 1, 10, q("x", 4))
	old.Addr = 77
	if l, f := evidence.Heard(c, old); f != api.OK || !slices.Equal(l, []int{1, 2}) {
		t.Error(l, f)
	}
	old.Answer = api.Answer{}
	if l, f := evidence.Heard(c, old); f != api.OK || len(l) > 0 {
		t.Error(l, f)
	}
	e.Claims, e.Steps = nil, nil
	c, _ = evidence.Claimed(e)
	p, _ = evidence.Planned(e)
	if !reflect.DeepEqual(c, e.Before) || !reflect.DeepEqual(p, e.Before) {
		t.Error("nothing changes nothing")
	}
}

// P1, P43.7: evidence that is not valid.
func TestErrors(t *testing.T) {
	for i, change := range []func(e *api.Evidence){
		func(e *api.Evidence) { e.Before = api.History{} }, func(e *api.Evidence) { e.Steps[1].At = 10 }, func(e *api.Evidence) { e.Claims[0].Host = 4 }, func(e *api.Evidence) { e.Claims[0].Host = -1 }, func(e *api.Evidence) { e.Claims[0].At = -1 }, func(e *api.Evidence) { e.Claims[2].At = 200 }, func(e *api.Evidence) { e.Claims[2].At = 9 },
		func(e *api.Evidence) { e.Claims[1] = e.Claims[0] }, func(e *api.Evidence) { e.Claims[0].Zone = api.Zone{} }, func(e *api.Evidence) { e.Claims[0].Zone.Apex = "y" }, func(e *api.Evidence) { e.Claims = slices.Repeat(e.Claims, 1400) }, func(e *api.Evidence) { e.Transcripts = make([]api.Transcript, 1) },
		func(e *api.Evidence) {
			e.Transcripts = slices.Repeat([]api.Transcript{{Q: q("x", 1), Result: api.Verdict{Kind: 2}}}, 101)
		},
	} {
		e := example()
		change(&e)
		c, f := evidence.Claimed(e)
		p, g := evidence.Planned(e)
		if evidence.Valid(e) || f != api.ErrArg || g != f || len(c.Hosts)+len(p.Hosts) > 0 {
			t.Error(i, f, g)
		}
	}
	h := example().Before
	good := api.Heard{At: 5, Addr: 1, Q: q("x", 1), Answer: api.Answer{Kind: 7}}
	for i, change := range []func(x *api.Heard){func(x *api.Heard) { x.At = -1 }, func(x *api.Heard) { x.At = 10000001 }, func(x *api.Heard) { x.Addr = 0 }, func(x *api.Heard) { x.Q.Type = 0 }, func(x *api.Heard) { x.Answer.Kind = 4 }, func(x *api.Heard) { x.Answer = api.Answer{}; x.Q.Name = "" }} {
		x := good
		change(&x)
		if l, f := evidence.Heard(h, x); f != api.ErrArg || len(l) > 0 {
			t.Error(i, f)
		}
	}
	if _, f := evidence.Heard(api.History{}, good); f != api.ErrArg {
		t.Error(f)
	}
	good.At = 10000000
	if l, f := evidence.Heard(h, good); f != api.OK || len(l) > 0 {
		t.Error(l, f)
	}
	e := example()
	e.Before.End, e.Claims = 1000, nil
	for i := range 401 {
		e.Claims = append(e.Claims, api.Claim{Host: 0, At: i, Zone: api.Zone{Apex: "q"}})
	}
	if _, f := evidence.Claimed(e); f != api.ErrLimit {
		t.Error(f)
	}
	e.Claims = e.Claims[:400]
	if _, f := evidence.Claimed(e); f != api.OK {
		t.Error(f)
	}
	e.Claims = nil
	for i := range 501 {
		e.Claims = append(e.Claims, api.Claim{Host: 0, At: 5, Zone: api.Zone{Apex: "z" + string([]byte{byte('a' + i/26), byte('a' + i%26)})}})
	}
	if _, f := evidence.Claimed(e); f != api.ErrLimit {
		t.Error(f)
	}
}

// P43.4: a claim changes nothing before it, nor of others.
func TestTime(t *testing.T) {
	e := example()
	with, _ := evidence.Claimed(e)
	e.Claims = e.Claims[1:]
	without, _ := evidence.Claimed(e)
	for at := 0; at < 60; at += 2 {
		a, _ := history.At(with, at)
		b, _ := history.At(without, at)
		for _, p := range slices.Concat(a.Zones, b.Zones) {
			same := func(x api.Placed) bool { return x.Host == p.Host && value.SameZone(x.Zone, p.Zone) }
			if slices.ContainsFunc(a.Zones, same) != slices.ContainsFunc(b.Zones, same) && (at < 10 || p.Host != 1 || p.Zone.Apex != "x") {
				t.Error(at, p.Host, p.Zone.Apex)
			}
		}
	}
}

// P43.5, P43.6: who could have said what was heard.
func TestHeard(t *testing.T) {
	d := sample.New(47)
	for range 10 {
		h := d.Shaken()
		h.Drift = d.Roll(5)
		more := h
		more.Drift = h.Drift + 3
		for range 30 {
			host, at := d.Roll(5), d.Roll(100)
			x := q([]string{"w.x", "t.y.x", "q", "a.ns", "x"}[d.Roll(5)], 1+d.Roll(8))
			a := answer(h, host, at, x)
			for _, when := range []int{at - h.Drift, at, at + h.Drift, at + d.Roll(9)} {
				l, e := evidence.Heard(h, api.Heard{At: max(0, when), Addr: 9, Q: x, Answer: a})
				near := when-at <= h.Drift && at-when <= h.Drift
				if e != api.OK || near && !slices.Contains(l, host) || !slices.IsSorted(l) {
					t.Error(host, at, when, l, e)
				}
				wider, _ := evidence.Heard(more, api.Heard{At: max(0, when), Addr: 9, Q: x, Answer: a})
				for _, n := range l {
					if !slices.Contains(wider, n) {
						t.Error("a greater drift", l, wider)
					}
					serves := slices.ContainsFunc(h.Copies, func(c api.Copy) bool {
						in, _ := name.Under(x.Name, c.Zone.Apex)
						return c.Host == n && in
					})
					if !serves && a.Kind != api.AnsRefused {
						t.Error(n, a)
					}
				}
			}
		}
	}
}

// P43.1: the edges of claims, transcripts and what was heard.
func TestEdges(t *testing.T) {
	e := example()
	fine := api.Transcript{Q: q("x", 1), Result: api.Verdict{Kind: 2}}
	for n, want := range map[int]bool{100: true, 101: false} {
		e.Transcripts = slices.Repeat([]api.Transcript{fine}, n)
		if evidence.Valid(e) != want {
			t.Error(n)
		}
	}
	e.Transcripts = nil
	for n, want := range map[int]bool{4000: true, 4001: false} {
		e.Claims = nil
		for i := range n {
			e.Claims = append(e.Claims, api.Claim{Host: i % 4, At: i / 100, Zone: api.Zone{Apex: "z" + string([]byte{byte('a' + i%100/4)})}})
		}
		if evidence.Valid(e) != want {
			t.Error(n)
		}
	}
	for n, want := range map[int]api.Errno{500: api.OK, 501: api.ErrLimit} {
		e.Claims = nil
		for i := range n {
			e.Claims = append(e.Claims, api.Claim{Host: 0, At: 5, Zone: api.Zone{Apex: "z" + string([]byte{byte('a' + i/26), byte('a' + i%26)})}})
		}
		if _, f := evidence.Claimed(e); f != want {
			t.Error(n, f)
		}
	}
	for at, want := range map[int]bool{-1: false, 0: true, 199: true, 200: false} {
		e.Claims = []api.Claim{{Host: 3, At: at, Zone: api.Zone{Apex: "z"}}}
		if evidence.Valid(e) != want {
			t.Error(at)
		}
	}
	for i, z := range []api.Zone{{}, {Apex: "*.z"}, {Apex: "z", Sets: sample.Bare("z", 1, "s").Sets[:1]}} {
		e.Claims = []api.Claim{{Host: 3, At: 5, Zone: z}}
		if evidence.Valid(e) {
			t.Error(i)
		}
	}
	h := example().Before
	for addr, want := range map[int]api.Errno{0: api.ErrArg, 1: api.OK, 1000000: api.OK, 1000001: api.ErrArg} {
		if _, f := evidence.Heard(h, api.Heard{At: 5, Addr: addr, Q: q("x", 1), Answer: api.Answer{Kind: 7}}); f != want {
			t.Error(addr, f)
		}
	}
	for at, want := range map[int]api.Errno{-1: api.ErrArg, 0: api.OK, 10000000: api.OK, 10000001: api.ErrArg} {
		if _, f := evidence.Heard(h, api.Heard{At: at, Addr: 1, Q: q("x", 1)}); f != want {
			t.Error(at, f)
		}
	}
	for i, a := range []api.Answer{{Sets: []api.Signed{sample.Signed("x", 1, 5, sample.Nums(1))}}, {Cut: "x"}, {Kind: 8}} {
		if _, f := evidence.Heard(h, api.Heard{At: 5, Addr: 1, Q: q("x", 1), Answer: a}); f != api.ErrArg {
			t.Error(i, f)
		}
	}
	refused := api.Heard{At: 5, Addr: 1, Q: q("x", 1), Answer: api.Answer{Kind: 7}}
	if l, f := evidence.Heard(h, refused); f != api.OK || !slices.Equal(l, []int{2, 3}) {
		t.Error(l, f)
	}
}

// P43.5: who could have said something just at the ends of the time.
func TestDrift(t *testing.T) {
	h := sample.Plain()
	h.Drift = 4
	h.Copies[1].From, h.Copies[1].Until = 20, 30
	x := api.Heard{Addr: 2, Q: q("w.x", 1), Answer: answer(h, 1, 25, q("w.x", 1))}
	for at, want := range map[int]bool{15: false, 16: true, 20: true, 29: true, 33: true, 34: false, 0: false, 199: false} {
		x.At = at
		if l, f := evidence.Heard(h, x); f != api.OK || (len(l) == 1) != want {
			t.Error(at, l, f)
		}
	}
	h.Copies[1].From, h.Copies[1].Until = 0, 1
	x.Answer = answer(h, 1, 0, q("w.x", 1))
	for at, want := range map[int]bool{0: true, 4: true, 5: false} {
		x.At = at
		if l, f := evidence.Heard(h, x); f != api.OK || (len(l) == 1) != want {
			t.Error(at, l, f)
		}
	}
	h.Copies[1].From, h.Copies[1].Until = 199, 200
	x.Answer = answer(h, 1, 199, q("w.x", 1))
	for at, want := range map[int]bool{194: false, 195: true, 199: true, 203: true, 204: false, 10000000: false} {
		x.At = at
		if l, f := evidence.Heard(h, x); f != api.OK || (len(l) == 1) != want {
			t.Error(at, l, f)
		}
	}
}

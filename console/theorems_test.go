package console_test

import (
	"reflect"
	"slices"
	"testing"

	"nameplan/api"
	"nameplan/cache"
	"nameplan/contest"
	"nameplan/court"
	"nameplan/denial"
	"nameplan/depend"
	"nameplan/forward"
	"nameplan/history"
	"nameplan/holds"
	"nameplan/journal"
	"nameplan/loops"
	"nameplan/net"
	"nameplan/packet"
	"nameplan/parser"
	"nameplan/plan"
	"nameplan/printer"
	"nameplan/prove"
	"nameplan/rollback"
	"nameplan/run"
	"nameplan/sample"
	"nameplan/span"
	"nameplan/steps"
	"nameplan/transfer"
	"nameplan/trust"
	"nameplan/value"
	"nameplan/wish"
	"nameplan/world"
)

func q(n string, typ int) api.Question { return api.Question{Name: n, Type: typ} }

var named = []api.Question{q("w.x", 1), q("l.x", 5), q("q.x", 5), q("t.y.x", 5), q("q", 1), q("w.x", 5), q("y.x", 6), q("x", 7), q("a.ns", 1)}

func picks(d *sample.Dice) []int {
	var out []int
	for range 40 {
		out = append(out, d.Roll(1000))
	}
	return out
}

// P2, T1, T2, T3: what a resolver finds is what the zones say, published, and trusted, and its cache is allowed.
func TestFinding(t *testing.T) {
	d := sample.New(50)
	h := sample.Tree()
	for range 20 {
		var c api.Cache
		at := d.Roll(50)
		for range 5 {
			x := named[d.Roll(len(named))]
			y, after, e := run.Resolve(h, c, x, at, picks(d))
			w, _ := history.At(h, at)
			a, f := world.Truth(w, x)
			if e != api.OK || f != api.OK || y.Result.Kind != api.Secure {
				t.Fatal(x, y.Result, e, f)
			}
			known, _ := cache.Known(after, at)
			for i, s := range y.Result.Sets {
				if a.Kind != api.AnsNoData && a.Kind != api.AnsNoName && !value.SameSigned(s, a.Sets[i]) {
					t.Error(x, s, a)
				}
				held, _ := history.Published(h, s.Sigs[0].Zone)
				keys, _, g := trust.Path(known, h.Anchor, s.Sigs[0].Zone, at, h.Drift)
				published := slices.ContainsFunc(held, func(y api.Held) bool { return value.SameSigned(y.Signed, s) })
				if !published || g != api.OK || !trust.Signed(s, s.Sigs[0].Zone, keys, at, h.Drift) {
					t.Error(x, s, g)
				}
			}
			if ok, e := holds.Allowed(h, after, at); !ok || e != api.OK {
				t.Error(x, "the cache is not allowed", e)
			}
			c, at = after, min(99, at+d.Roll(9))
		}
	}
}

// P2, T2: forged packets are dropped.
func TestForged(t *testing.T) {
	f, m, _ := forward.Begin(q("x", 1), 9, []int{2}, 5, 10)
	a := api.Message{Kind: 2, ID: 5, From: 2, To: 9, Q: m.Q, Answer: api.Answer{Kind: 1}}
	for forge := 1; forge <= 2; forge++ {
		n, e := net.Send(api.Net{}, a, 10, api.Fate{Copies: 1, Forge: forge})
		_, l, _ := net.Receive(n, 9, 10)
		g, took, k := forward.Take(f, l[0], 11)
		if e != api.OK || k != api.OK || took || !reflect.DeepEqual(f, g) || packet.Match(m, l[0]) {
			t.Error(forge, took)
		}
	}
}

// P2, T4, T6, T7: schedules are accepted, resolvers find the names at each time of them, and they are taken back, and merged.
func TestSchedules(t *testing.T) {
	d := sample.New(51)
	h := sample.Plain()
	asked := []api.Question{q("w.x", 1), q("w.y", 1)}
	var all [][]api.Step
	for i, x := range []api.Wish{{Kind: 2, Zone: "x", Key: api.Key{N: 8, Alg: 1}}, {Kind: 1, Zone: "x", Hosts: []int{2, 3}}, {Kind: 3, Zone: "y", Name: "w.y", Hosts: []int{3}}} {
		l, e := plan.Plan(h, x, asked, 5, 80)
		if e != api.OK {
			t.Fatal(i, e)
		}
		all = append(all, l)
		made, _ := steps.Apply(h, l)
		last := l[len(l)-1].At
		w, _ := history.At(made, last)
		if ok, e := wish.Done(w, x); !ok || e != api.OK {
			t.Error(i, "is not fulfilled")
		}
		held, _ := holds.All(made)
		for at := l[0].At; at < last+20; at += 2 {
			var c api.Cache
			for _, y := range held {
				e := api.Entry{Signed: y.Signed, Zone: y.Zone, Until: at + 1}
				if more := (api.Cache{List: append(slices.Clone(c.List), e)}); span.Has(y.Spans, at) && d.Roll(3) == 0 && cache.Valid(more) {
					c = more
				}
			}
			for _, x := range asked {
				if y, _, e := run.Resolve(made, c, x, at, picks(d)); e != api.OK || y.Result.Kind != api.Secure && len(y.Heard) < 40 {
					t.Error(i, x, at, y.Result)
				}
			}
		}
		b, e := rollback.Back(h, l, len(l), last+1, 180, asked)
		back, _ := steps.Apply(made, b)
		if _, ok, _ := prove.Prove(back, asked, b[len(b)-1].At, h.End); e != api.OK || !ok {
			t.Error(i, "is not taken back", e)
		}
	}
	delay, ok, e := contest.Order(h, all[0], all[2], asked, 100)
	if e == api.ErrClash {
		if _, e := contest.Merge(h, all[0], all[2]); e != api.ErrClash {
			t.Error(e)
		}
	} else if !ok || e != api.OK || delay < 0 {
		t.Error(delay, ok, e)
	}
}

// P2, T5: with the cache that is shown for a clash of keys a resolver finds no secure answer.
func TestShown(t *testing.T) {
	h := sample.Rolled()
	x, ok, _ := prove.Prove(h, []api.Question{q("x", 4)}, 0, 100)
	c, y, at, e := prove.Shown(h, x)
	if ok || e != api.OK {
		t.Fatal(x, e)
	}
	r, _, e := run.Resolve(h, c, y, at, nil)
	if e != api.OK || r.Result.Kind == api.Secure && len(r.Heard) == 0 {
		t.Error(r.Result, e)
	}
}

// P2, T8: transfers, journals and crashes lead to what primaries published.
func TestCopies(t *testing.T) {
	l := sample.New(52).Versions("x", 5, 65533)
	s, e := transfer.Pull(api.Secondary{}, l[:1], 0)
	disk, f := journal.Begin(s.Zone)
	if e != api.OK || f != api.OK {
		t.Fatal(e, f)
	}
	disk, _ = journal.Sync(disk)
	for i := range l[1:] {
		o, _ := transfer.Serve(l[:i+2], true, (65533+i)%65536)
		for _, x := range o.Deltas {
			if disk, e = journal.Append(disk, x); e != api.OK {
				t.Fatal(e)
			}
		}
		lost, _ := journal.Crash(disk, 0, 7)
		if z, e := journal.Load(lost); e != api.OK || !value.SameZone(z, l[i]) {
			t.Error(i, e)
		}
		disk, _ = journal.Sync(disk)
		if z, e := journal.Load(disk); e != api.OK || !value.SameZone(z, l[i+1]) {
			t.Error(i, e)
		}
	}
}

// P2, T9: zone files, denials, loops and dependences agree with resolution.
func TestAgreement(t *testing.T) {
	h := sample.Tree()
	w, _ := history.At(h, 5)
	if l, e := loops.Zones(w); e != api.OK || len(l) > 0 {
		t.Error(l, e)
	}
	for _, x := range named {
		zones, _ := depend.Zones(w, x.Name)
		part := h
		part.Copies = slices.DeleteFunc(slices.Clone(h.Copies), func(c api.Copy) bool { return !slices.Contains(zones, c.Zone.Apex) })
		y, _, e := run.Resolve(part, api.Cache{}, x, 5, nil)
		if e != api.OK || x.Type == 1 && y.Result.Kind != api.Secure {
			t.Error(x, zones, y.Result)
		}
	}
	for _, c := range h.Copies {
		plain := value.Zone(c.Zone)
		plain.Sets = slices.DeleteFunc(plain.Sets, func(s api.Signed) bool { return s.Set.Type == api.TypeNext })
		for i := range plain.Sets {
			plain.Sets[i].Sigs = nil
		}
		text, e := printer.Print([]api.Zone{plain})
		back, wrong := parser.Parse(text)
		if e != api.OK || len(wrong) > 0 || !reflect.DeepEqual(back[0], plain) {
			t.Error(text, e, wrong)
		}
		chain, _ := denial.Chain(plain)
		again, _ := denial.Chain(chain)
		if !reflect.DeepEqual(chain, again) {
			t.Error("chains differ")
		}
	}
}

// P2, T10: the court names nobody who did as planned.
func TestCourt(t *testing.T) {
	h := sample.Plain()
	asked := []api.Question{q("w.x", 1)}
	l, e := plan.Plan(h, api.Wish{Kind: 1, Zone: "x", Hosts: []int{2, 3}}, asked, 5, 80)
	if e != api.OK {
		t.Fatal(e)
	}
	for guilty := range 4 {
		x := api.Evidence{Before: h, Steps: l}
		had := false
		for _, s := range l {
			for _, p := range s.Stage.Puts {
				if p.Host == guilty {
					had = true
				} else {
					x.Claims = append(x.Claims, api.Claim{Host: p.Host, At: s.At, Zone: p.Zone})
				}
			}
		}
		j, e := court.Judge(x, asked)
		if e != api.OK || had != (j.Kind == api.GuiltOperator) || had && j.Who != h.Hosts[guilty].Owner {
			t.Error(guilty, j, e)
		}
	}
}

package transfer_test

import (
	"reflect"
	"slices"
	"testing"

	"nameplan/api"
	"nameplan/sample"
	"nameplan/transfer"
)

func with(z api.Zone, seen int) api.Secondary {
	return api.Secondary{Has: true, Zone: z, Seen: seen}
}

// P14.1: what a primary gives.
func TestServe(t *testing.T) {
	l := sample.New(18).Versions("x", 3, 1)
	for i, c := range []struct {
		has    bool
		serial int
		full   bool
		n      int
	}{{true, 2, false, 1}, {true, 1, false, 2}, {true, 3, false, 0}, {true, 7, true, 0}, {false, 2, true, 0}, {false, -5, true, 0}} {
		o, e := transfer.Serve(l, c.has, c.serial)
		if e != api.OK || o.Full != c.full || len(o.Deltas) != c.n || c.full != reflect.DeepEqual(o.Zone, l[2]) {
			t.Error(i, o, e)
		}
	}
	back := slices.Clone(l)
	slices.Reverse(back)
	for i, c := range []struct {
		l      []api.Zone
		serial int
		e      api.Errno
	}{{nil, 0, api.ErrNone}, {nil, -1, api.ErrArg}, {l, 65536, api.ErrArg}, {back, 1, api.ErrArg}, {append(slices.Clone(l), l[2]), 1, api.ErrArg}, {append(slices.Clone(l), sample.Bare("y", 4, "a")), 1, api.ErrArg}, {append(slices.Clone(l), api.Zone{}), 1, api.ErrArg}} {
		if o, e := transfer.Serve(c.l, true, c.serial); e != c.e || o.Full || len(o.Deltas) > 0 {
			t.Error(i, e)
		}
	}
}

// P14.1: errors of Take, Pull and Expired; P14.6: no way back.
func TestTake(t *testing.T) {
	l := sample.New(19).Versions("x", 4, 65533)
	full := func(z api.Zone) api.Offer { return api.Offer{Full: true, Zone: z} }
	steps, _ := transfer.Serve(l, true, 65533)
	other := sample.With(l[1], sample.Signed("other.x", 1, 1, sample.Nums(1)))
	for i, c := range []struct {
		s  api.Secondary
		o  api.Offer
		at int
		e  api.Errno
	}{
		{api.Secondary{}, full(l[1]), 0, api.OK}, {api.Secondary{Seen: 5}, full(l[1]), 4, api.ErrArg}, {api.Secondary{}, full(l[1]), 10000001, api.ErrArg}, {api.Secondary{Seen: -1}, full(l[1]), 4, api.ErrArg}, {api.Secondary{Has: true}, full(l[1]), 4, api.ErrArg}, {api.Secondary{Zone: l[0]}, full(l[1]), 4, api.ErrArg},
		{api.Secondary{}, full(api.Zone{}), 0, api.ErrArg}, {api.Secondary{}, api.Offer{Zone: l[0]}, 0, api.ErrArg}, {api.Secondary{}, api.Offer{Full: true, Zone: l[0], Deltas: steps.Deltas}, 0, api.ErrArg},
		{with(l[0], 0), full(sample.Bare("y", 0, "a")), 0, api.ErrArg}, {with(sample.Bare("y", 65533, "a"), 0), steps, 0, api.ErrArg}, {api.Secondary{}, api.Offer{}, 0, api.ErrState}, {api.Secondary{}, steps, 0, api.ErrState},
		{with(l[2], 0), full(l[1]), 0, api.ErrOld}, {with(l[1], 0), full(other), 0, api.ErrClash}, {with(l[1], 3), full(l[1]), 3, api.OK}, {with(l[1], 0), full(l[3]), 0, api.OK}, {with(l[1], 0), steps, 0, api.ErrOld}, {with(l[0], 0), steps, 0, api.OK}, {with(l[0], 0), api.Offer{}, 0, api.OK},
		{with(l[0], 0), api.Offer{Deltas: []api.Delta{steps.Deltas[0], steps.Deltas[2]}}, 0, api.ErrArg}, {with(l[0], 0), api.Offer{Deltas: []api.Delta{{}}}, 0, api.ErrArg},
	} {
		s, e := transfer.Take(c.s, c.o, c.at)
		if e != c.e || s.Has != (e == api.OK) || e != api.OK && (s.Seen != 0 || s.Zone.Apex != "") || e == api.OK && s.Seen != c.at {
			t.Error(i, e)
		}
	}
	for want, s := range map[api.Errno]api.Secondary{api.ErrArg: {Has: true}, api.ErrOld: with(sample.Bare("x", 5, "a"), 0)} {
		if _, e := transfer.Pull(s, l, 0); e != want {
			t.Error(e)
		}
	}
	if _, e := transfer.Pull(api.Secondary{}, nil, 0); e != api.ErrNone {
		t.Error(e)
	}
	if _, e := transfer.Pull(with(sample.Bare("y", 5, "a"), 0), l, 0); e != api.ErrArg {
		t.Error(e)
	}
}

// P14.7: patience.
func TestExpired(t *testing.T) {
	z := sample.Bare("x", 1, "a")
	for i, c := range []struct {
		s            api.Secondary
		at, patience int
		want         bool
		e            api.Errno
	}{{with(z, 5), 5, 0, false, api.OK}, {with(z, 5), 8, 3, false, api.OK}, {with(z, 5), 9, 3, true, api.OK}, {api.Secondary{}, 0, 9, true, api.OK}, {with(z, 5), 4, 3, false, api.ErrArg}, {with(z, 5), 5, -1, false, api.ErrArg}, {with(z, 5), 10000001, 3, false, api.ErrArg}, {api.Secondary{Has: true}, 5, 3, false, api.ErrArg}, {with(z, 5), 10000000, 1 << 62, false, api.OK}} {
		if is, e := transfer.Expired(c.s, c.at, c.patience); is != c.want || e != c.e {
			t.Error(i, is, e)
		}
	}
}

// P14.2 to P14.5: secondaries come to the newest version.
func TestPull(t *testing.T) {
	d := sample.New(20)
	for range 40 {
		l := d.Versions("x", 1+d.Roll(6), 65530+d.Roll(6))
		var s, late api.Secondary
		for i := range l {
			o, _ := transfer.Serve(l[:i+1], s.Has, 0)
			if s.Has {
				n := s.Zone
				for _, z := range n.Sets {
					if z.Set.Type == 4 {
						o, _ = transfer.Serve(l[:i+1], true, z.Set.Data[0].N)
					}
				}
				if o.Full {
					t.Error("a whole zone")
				}
			}
			var e api.Errno
			if s, e = transfer.Pull(s, l[:i+1], i); e != api.OK || !reflect.DeepEqual(s, with(l[i], i)) {
				t.Error(e)
			}
			if again, e := transfer.Pull(s, l[:i+1], i+1); e != api.OK || !reflect.DeepEqual(again, with(l[i], i+1)) {
				t.Error(e)
			}
			if d.Roll(2) == 0 {
				late, _ = transfer.Pull(late, l[:i+1], i)
			}
		}
		if late, e := transfer.Pull(late, l, 50); e != api.OK || !reflect.DeepEqual(late.Zone, s.Zone) {
			t.Error(e)
		}
	}
}

// P14.1: the limits of versions, offers and times.
func TestLimits(t *testing.T) {
	l := sample.New(60).Versions("x", 2, 1)
	if _, e := transfer.Serve(make([]api.Zone, 20001), false, 0); e != api.ErrArg {
		t.Error(e)
	}
	var many []api.Zone
	for i := range 20001 {
		many = append(many, sample.Bare("x", i, "a"))
	}
	for n, want := range map[int]api.Errno{20000: api.OK, 20001: api.ErrArg} {
		if o, e := transfer.Serve(many[:n], true, n-1); e != want || o.Full {
			t.Error(n, e)
		}
	}
	if _, e := transfer.Serve(l, true, 65536); e != api.ErrArg {
		t.Error(e)
	}
	if _, e := transfer.Serve(l, true, -1); e != api.ErrArg {
		t.Error(e)
	}
	if o, e := transfer.Serve(l, true, 65535); e != api.OK || !o.Full {
		t.Error(e)
	}
	first, _ := transfer.Serve(sample.New(60).Versions("x", 3, 1)[:1], true, 1)
	if len(first.Deltas) > 0 || first.Full {
		t.Error(first)
	}
	full := api.Offer{Full: true, Zone: l[1]}
	for i, c := range []struct {
		s  api.Secondary
		o  api.Offer
		at int
		e  api.Errno
	}{
		{with(l[0], 10000000), full, 10000000, api.OK}, {with(l[0], 10000001), full, 10000001, api.ErrArg}, {with(l[0], 5), full, 10000001, api.ErrArg}, {with(l[0], 10000000), full, 9999999, api.ErrArg}, {api.Secondary{Zone: api.Zone{Apex: "x"}}, full, 5, api.ErrArg}, {api.Secondary{Zone: api.Zone{Sets: l[0].Sets}}, full, 5, api.ErrArg},
		{with(l[0], 0), api.Offer{Zone: api.Zone{Apex: "x"}}, 5, api.ErrArg}, {with(l[0], 0), api.Offer{Zone: api.Zone{Sets: l[0].Sets}}, 5, api.ErrArg}, {with(l[0], 0), api.Offer{Zone: api.Zone{Sets: l[0].Sets[:1]}}, 5, api.ErrArg},
		{with(l[0], 0), api.Offer{Deltas: []api.Delta{{Apex: "x", From: 1, To: 2, Put: l[1].Sets}, {Apex: "y", From: 2, To: 3}}}, 5, api.ErrArg}, {with(l[0], 0), api.Offer{Deltas: []api.Delta{{Apex: "x", From: 1, To: 1}}}, 5, api.ErrArg}, {with(l[0], 0), api.Offer{Deltas: []api.Delta{{Apex: "x", From: 1, To: 2}}}, 5, api.ErrClash},
	} {
		s, e := transfer.Take(c.s, c.o, c.at)
		if e != c.e || s.Has != (e == api.OK) {
			t.Error(i, e)
		}
	}
	var deltas []api.Delta
	for i := range 20001 {
		deltas = append(deltas, api.Delta{Apex: "x", From: i % 65536, To: (i + 1) % 65536, Put: []api.Signed{sample.Signed("x", 4, 10, sample.Nums((i+1)%65536, 5))}})
	}
	start := with(sample.Bare("x", 0, "a"), 0)
	if s, e := transfer.Take(start, api.Offer{Deltas: deltas[:20000]}, 5); e != api.OK || s.Seen != 5 {
		t.Error(e)
	}
	if _, e := transfer.Take(start, api.Offer{Deltas: deltas}, 5); e != api.ErrArg {
		t.Error(e)
	}
	if s, e := transfer.Pull(api.Secondary{Seen: -1}, nil, 5); e != api.ErrArg || s.Has {
		t.Error(e)
	}
	if is, e := transfer.Expired(with(l[0], 10000000), 10000000, 0); is || e != api.OK {
		t.Error(is, e)
	}
}

// P14.1: an offer is not valid if a difference of it is not in form, as the questions of Drop are not in order.
func TestForm(t *testing.T) {
	l := []api.Zone{sample.Bare("x", 1, "a"), sample.Bare("x", 2, "a"), sample.Bare("x", 3, "a")}
	for i, c := range []struct {
		drop []api.Question
		e    api.Errno
	}{
		{[]api.Question{{Name: "x", Type: 1}, {Name: "w.x", Type: 1}, {Name: "w.x", Type: 5}}, api.OK},
		{[]api.Question{{Name: "w.x", Type: 1}, {Name: "w.x", Type: 1}}, api.ErrArg},
		{[]api.Question{{Name: "w.x", Type: 1}, {Name: "x", Type: 1}}, api.ErrArg},
		{[]api.Question{{Name: "w.x", Type: 5}, {Name: "w.x", Type: 1}}, api.ErrArg},
	} {
		for k := range 2 {
			o, _ := transfer.Serve(l, true, 1)
			o.Deltas[k].Drop = c.drop
			if s, e := transfer.Take(with(l[0], 0), o, 5); e != c.e || s.Has != (e == api.OK) || e == api.OK && !reflect.DeepEqual(s, with(l[2], 5)) {
				t.Error(i, k, e)
			}
			without := c.e
			if without == api.OK {
				without = api.ErrState
			}
			if s, e := transfer.Take(api.Secondary{}, o, 5); e != without || s.Has {
				t.Error(i, k, e)
			}
			if s, e := transfer.Take(with(l[2], 0), o, 5); (c.e == api.ErrArg) != (e == api.ErrArg) || s.Has {
				t.Error(i, k, e)
			}
		}
	}
}

package copies_test

import (
	"reflect"
	"slices"
	"testing"

	"nameplan/api"
	"nameplan/copies"
	"nameplan/sample"
	"nameplan/value"
)

func versions(d *sample.Dice, times ...int) []api.Version {
	var l []api.Version
	for i, z := range d.Versions("x", len(times), 65534) {
		l = append(l, api.Version{At: times[i], Zone: z})
	}
	return l
}

// P15.1: the example of the document.
func TestExample(t *testing.T) {
	l := versions(sample.New(21), 10, 50)
	polls := []api.Poll{{Host: 1, At: 70}, {Host: 1, At: 5}, {Host: 1, At: 20}, {Host: 1, At: 60, Lost: true}, {Host: 0, At: 60}}
	c, e := copies.Spread(l, 0, polls, 100)
	want := []api.Copy{{Host: 0, From: 10, Until: 50, Zone: l[0].Zone}, {Host: 0, From: 50, Until: 100, Zone: l[1].Zone}, {Host: 1, From: 20, Until: 70, Zone: l[0].Zone}, {Host: 1, From: 70, Until: 100, Zone: l[1].Zone}}
	if e != api.OK || !reflect.DeepEqual(c, want) {
		t.Error(c, e)
	}
	for host, want := range map[int]int{0: 0, 1: 20, 2: 90} {
		if n, e := copies.Lag(l, c, host, 100); n != want || e != api.OK {
			t.Error(host, n, e)
		}
	}
}

// P1, P15.1: errors.
func TestErrors(t *testing.T) {
	l := versions(sample.New(22), 10, 50, 60)
	same := []api.Version{l[0], {At: 20, Zone: l[0].Zone}}
	for i, c := range []struct {
		l       []api.Version
		primary int
		p       api.Poll
		end     int
	}{{nil, 0, api.Poll{}, 100}, {l, 0, api.Poll{}, 0}, {l, 0, api.Poll{}, 10000001}, {l, 0, api.Poll{}, 60}, {l, -1, api.Poll{}, 100}, {l, 64, api.Poll{}, 100}, {l, 0, api.Poll{Host: 64}, 100}, {l, 0, api.Poll{At: 100}, 100}, {l, 0, api.Poll{At: -1}, 100},
		{[]api.Version{l[1], l[0]}, 0, api.Poll{}, 100}, {same, 0, api.Poll{}, 100}, {[]api.Version{{At: 1}}, 0, api.Poll{}, 100}, {[]api.Version{l[0], {At: 20, Zone: sample.Bare("y", 1, "a")}}, 0, api.Poll{}, 100}, {[]api.Version{l[0], {At: 10, Zone: l[1].Zone}}, 0, api.Poll{}, 100}} {
		if x, e := copies.Spread(c.l, c.primary, []api.Poll{c.p}, c.end); e != api.ErrArg || len(x) > 0 {
			t.Error(i, x, e)
		}
	}
	good := api.Copy{Host: 1, From: 10, Until: 50, Zone: l[0].Zone}
	for i, c := range []struct {
		c    api.Copy
		host int
		e    api.Errno
	}{{good, 64, api.ErrArg}, {api.Copy{Host: 1, From: -1, Until: 5, Zone: l[0].Zone}, 1, api.ErrArg}, {api.Copy{Host: 1, From: 50, Until: 101, Zone: l[0].Zone}, 1, api.ErrArg}, {api.Copy{Host: 1, From: 60, Until: 60, Zone: l[0].Zone}, 1, api.ErrArg}, {api.Copy{Host: 1, From: 49, Until: 60, Zone: l[0].Zone}, 1, api.ErrArg}, {api.Copy{Host: 2, From: -1, Until: 60}, 1, api.OK}, {api.Copy{Host: 1, From: 60, Until: 70}, 1, api.ErrNone}, {api.Copy{Host: 1, From: 50, Until: 70, Zone: l[2].Zone}, 1, api.OK}} {
		if n, e := copies.Lag(l, []api.Copy{good, c.c}, c.host, 100); e != c.e || e != api.OK && n != 0 {
			t.Error(i, n, e)
		}
	}
	var many []api.Version
	for i := range 400 {
		many = append(many, api.Version{At: i, Zone: sample.Bare("x", i, "a")})
	}
	var polls []api.Poll
	for i := range 3700 {
		polls = append(polls, api.Poll{Host: 1 + i/400, At: i % 400})
	}
	if x, e := copies.Spread(many, 0, polls, 400); e != api.ErrLimit || len(x) > 0 {
		t.Error(e)
	}
	if x, e := copies.Spread(many, 0, polls[:3600], 400); e != api.OK || len(x) != 4000 {
		t.Error(e)
	}
	if x, e := copies.Spread(many[:5], 0, make([]api.Poll, 4001), 400); e != api.ErrArg || len(x) > 0 {
		t.Error(e)
	}
}

func serving(c []api.Copy, host, t int) (api.Zone, bool) {
	for _, x := range c {
		if x.Host == host && x.From <= t && t < x.Until {
			return x.Zone, true
		}
	}
	return api.Zone{}, false
}

// P15.2 to P15.7: what hosts serve at each time, and lags.
func TestLaws(t *testing.T) {
	d := sample.New(23)
	for range 60 {
		l := versions(d, d.Roll(5), 5+d.Roll(10), 20+d.Roll(10))
		var polls []api.Poll
		for range d.Roll(12) {
			polls = append(polls, api.Poll{Host: d.Roll(3), At: d.Roll(40), Lost: d.Roll(4) == 0})
		}
		c, e := copies.Spread(l, 0, polls, 40)
		if e != api.OK {
			t.Fatal(e)
		}
		index := func(z api.Zone, ok bool) int {
			return slices.IndexFunc(l, func(v api.Version) bool { return ok && value.SameZone(v.Zone, z) })
		}
		newest := func(t int) int {
			n := -1
			for i, v := range l {
				if v.At <= t {
					n = i
				}
			}
			return n
		}
		more, _ := copies.Spread(l, 0, append(slices.Clone(polls), api.Poll{Host: 1, At: d.Roll(40)}), 40)
		for host := range 3 {
			most := 0
			for at := range 40 {
				want := newest(at)
				if host > 0 {
					want = -1
					last := -1
					for _, p := range polls {
						if p.Host == host && !p.Lost && p.At <= at {
							last = max(last, p.At)
						}
					}
					if last >= 0 {
						want = newest(last)
					}
				}
				got := index(serving(c, host, at))
				if got != want || index(serving(more, host, at)) < got {
					t.Error(host, at, got, want)
				}
				if want+1 < len(l) && l[want+1].At <= at {
					most = max(most, at+1-l[want+1].At)
				}
			}
			n, e := copies.Lag(l, c, host, 40)
			m, _ := copies.Lag(l, more, host, 40)
			if n != most || e != api.OK || m > n || host == 0 && n != 0 {
				t.Error(host, n, most, m)
			}
		}
		for i := 1; i < len(c); i++ {
			if c[i].Host == c[i-1].Host && (c[i].From != c[i-1].Until || index(c[i].Zone, true) <= index(c[i-1].Zone, true)) || c[i].Host < c[i-1].Host {
				t.Error(c[i-1].Until, c[i].From)
			}
		}
		slices.Reverse(polls)
		less := slices.DeleteFunc(slices.Clone(polls), func(p api.Poll) bool { return p.Lost || p.Host == 0 })
		if again, _ := copies.Spread(l, 0, less, 40); !reflect.DeepEqual(again, c) {
			t.Error("lost polls, polls of the primary, or their order")
		}
		var eager, regular []api.Poll
		for _, v := range l {
			eager = append(eager, api.Poll{Host: 5, At: v.At})
		}
		for at := l[0].At; at < 40; at += 7 {
			regular = append(regular, api.Poll{Host: 6, At: at})
		}
		c, _ = copies.Spread(l, 0, append(eager, regular...), 40)
		n, _ := copies.Lag(l, c, 5, 40)
		m, _ := copies.Lag(l, c, 6, 40)
		if n != 0 || m > 7 {
			t.Error(n, m)
		}
	}
}

// P15.1: the edges of ends, hosts, polls and versions, and copies in any order.
func TestEdges(t *testing.T) {
	one := []api.Version{{At: 0, Zone: sample.Bare("x", 1, "a")}}
	for end, want := range map[int]api.Errno{0: api.ErrArg, 1: api.OK, 2: api.OK, 10000000: api.OK, 10000001: api.ErrArg} {
		for host, too := range map[int]api.Errno{-1: api.ErrArg, 0: api.OK, 63: api.OK, 64: api.ErrArg} {
			c, e := copies.Spread(one, host, nil, end)
			n, f := copies.Lag(one, nil, host, end)
			good := want == api.OK && too == api.OK
			if (e == api.OK) != good || (f == api.OK) != good || good && (len(c) != 1 || c[0].Host != host || c[0].Until != end || n != end) {
				t.Error(end, host, e, f, n)
			}
		}
	}
	for at, want := range map[int]api.Errno{-1: api.ErrArg, 0: api.OK, 4: api.OK, 5: api.ErrArg} {
		_, e := copies.Spread([]api.Version{{At: at, Zone: one[0].Zone}}, 0, nil, 5)
		_, f := copies.Spread(one, 0, []api.Poll{{Host: 63, At: at}}, 5)
		if e != want || f != want {
			t.Error(at, e, f)
		}
	}
	if _, e := copies.Spread(one, 0, make([]api.Poll, 4000), 5); e != api.OK {
		t.Error(e)
	}
	var many []api.Version
	for i := range 401 {
		many = append(many, api.Version{At: i, Zone: sample.Bare("x", i, "a")})
	}
	for n, want := range map[int]api.Errno{400: api.OK, 401: api.ErrArg} {
		_, e := copies.Spread(many[:n], 0, nil, 1000)
		_, f := copies.Lag(many[:n], nil, 0, 1000)
		if e != want || f != want {
			t.Error(n, e, f)
		}
	}
	if _, e := copies.Lag(nil, nil, 0, 5); e != api.ErrArg {
		t.Error(e)
	}
	l := []api.Version{many[0], {At: 30, Zone: many[2].Zone}}
	parts := []api.Copy{{Host: 1, From: 40, Until: 60, Zone: l[1].Zone}, {Host: 1, From: 5, Until: 35, Zone: l[0].Zone}}
	if n, e := copies.Lag(l, parts, 1, 60); e != api.OK || n != 40 {
		t.Error(n, e)
	}
	parts[0].From = 34
	if n, e := copies.Lag(l, parts, 1, 60); e != api.ErrArg || n != 0 {
		t.Error(n, e)
	}
	// serial numbers may come round again, but not the zones
	round := []api.Version{{At: 0, Zone: sample.Bare("x", 0, "a")}, {At: 1, Zone: sample.Bare("x", 30000, "a")}, {At: 2, Zone: sample.Bare("x", 60000, "a")}, {At: 3, Zone: sample.Bare("x", 0, "a")}}
	if _, e := copies.Spread(round, 0, nil, 9); e != api.ErrArg {
		t.Error(e)
	}
	round[3].Zone = sample.Bare("x", 0, "b")
	if c, e := copies.Spread(round, 0, nil, 9); e != api.OK || len(c) != 4 {
		t.Error(e)
	}
	other := []api.Version{one[0], {At: 1, Zone: sample.Bare("y", 2, "a")}}
	if _, e := copies.Spread(other, 0, nil, 9); e != api.ErrArg {
		t.Error(e)
	}
	twice := []api.Poll{{Host: 1, At: 3}, {Host: 1, At: 3}, {Host: 1, At: 7}}
	if c, e := copies.Spread(one, 0, twice, 9); e != api.OK || len(c) != 2 || c[1].From != 3 || c[1].Until != 9 {
		t.Error(c, e)
	}
}

package iterate_test

import (
	"reflect"
	"slices"
	"testing"

	"nameplan/api"
	"nameplan/iterate"
	"nameplan/name"
	"nameplan/sample"
)

var text, nums, signed = sample.Text, sample.Nums, sample.Signed

func q(n string, typ int) api.Question { return api.Question{Name: n, Type: typ} }

func check(t *testing.T, known []api.Signed, x api.Question, zone string, addr int, want api.Question) {
	t.Helper()
	n, e := iterate.Ask(known, []int{1}, x)
	if e != api.OK || !reflect.DeepEqual(n, api.Next{Kind: api.NeedAsk, Zone: zone, Addrs: []int{addr}, Q: want}) {
		t.Error(x, n, e)
	}
}

// P28.1: the example of the document, and further cases.
func TestExample(t *testing.T) {
	known := []api.Signed{signed("x", 2, 5, text("a.ns")), signed("ns", 2, 5, text("a.ns"), text("b.q"))}
	check(t, known, q("t.x", 5), ".", 1, q("b.q", 1))
	addr := append(slices.Clone(known), signed("a.ns", 1, 5, nums(5)))
	check(t, addr, q("t.x", 5), "x", 5, q("t.x", 5))
	check(t, addr, q("x", 6), ".", 1, q("x", 6))
	check(t, addr, q("x", 7), "x", 5, q("x", 7))
	check(t, nil, q(".", 6), ".", 1, q(".", 6))
	check(t, append(addr, signed("l.y", 3, 5, text("t.x"))), q("l.y", 5), "x", 5, q("t.x", 5))
	check(t, append(addr, signed("l.y", 3, 5, text("t.x"))), q("l.y", 8), ".", 1, q("l.y", 8))
	// the host is an alias: its end is asked for
	check(t, append(slices.Clone(known[:1]), signed("a.ns", 3, 5, text("b.z"))), q("t.x", 5), ".", 1, q("b.z", 1))
	// the alias of the host leads to an address that does not help: the next zone is asked
	check(t, append(slices.Clone(known[:1]), signed("a.ns", 3, 5, text("b.z")), signed("b.z", 1, 5, nums(8))), q("t.x", 5), ".", 1, q("t.x", 5))
	// two zones that need each other
	check(t, []api.Signed{signed("x", 2, 5, text("h.y")), signed("y", 2, 5, text("h.x"))}, q("t.x", 5), ".", 1, q("h.x", 1))
	// all hosts are under the zone
	check(t, []api.Signed{signed("x", 2, 5, text("h.x"))}, q("t.x", 5), ".", 1, q("t.x", 5))
	root := []api.Signed{signed(".", 2, 5, text("a"), text("b")), signed("a", 1, 5, nums(7), nums(8)), signed("b", 1, 5, nums(7), nums(9))}
	if n, e := iterate.Ask(root, []int{1}, q("q", 1)); e != api.OK || !slices.Equal(n.Addrs, []int{7, 8, 9}) {
		t.Error(n, e)
	}
	if n, e := iterate.Ask(root[:1], []int{4, 4}, q("q", 1)); e != api.OK || !slices.Equal(n.Addrs, []int{4, 4}) {
		t.Error(n, e)
	}
	var chain []api.Signed
	for i := range 9 {
		chain = append(chain, signed(string([]byte{byte('a' + i)}), 3, 5, text(string([]byte{byte('b' + i)}))))
	}
	if n, e := iterate.Ask(chain, []int{1}, q("a", 1)); e != api.OK || !reflect.DeepEqual(n, api.Next{Kind: api.NeedDark}) {
		t.Error(n, e)
	}
	if n, e := iterate.Ask(append(chain, signed("j", 1, 1, nums(1))), []int{1}, q("b", 1)); e != api.OK || n.Kind != api.NeedDone || len(n.Sets) != 9 {
		t.Error(n, e)
	}
	for s, want := range map[string]string{"t.x": "x", "x": "x", "q": ".", "a.ns": "ns"} {
		if z, e := iterate.Zone(known, s); z != want || e != api.OK {
			t.Error(s, z, e)
		}
	}
}

// P28.1: at most 8 zones are left out.
func TestTries(t *testing.T) {
	var known []api.Signed
	for i := range 12 {
		known = append(known, signed(string([]byte{byte('a' + i)}), 2, 5, text("h."+string([]byte{byte('b' + i)}))))
	}
	check(t, known, q("t.a", 1), ".", 1, q("h.i", 1))
	check(t, known[:3], q("t.a", 1), ".", 1, q("h.d", 1))
}

// P1: errors.
func TestErrors(t *testing.T) {
	good := []api.Signed{signed("x", 2, 5, text("a.ns"))}
	for i, c := range []struct {
		known []api.Signed
		hints []int
		x     api.Question
	}{{make([]api.Signed, 1), []int{1}, q("x", 1)}, {slices.Repeat(good, 401), []int{1}, q("x", 1)}, {good, nil, q("x", 1)}, {good, []int{0}, q("x", 1)}, {good, []int{1000001}, q("x", 1)}, {good, make([]int, 9), q("x", 1)}, {good, []int{1}, q("x", 0)}, {good, []int{1}, q("", 1)}} {
		if n, e := iterate.Ask(c.known, c.hints, c.x); e != api.ErrArg || n.Kind != 0 {
			t.Error(i, e)
		}
	}
	_, e := iterate.Zone(slices.Repeat(good, 401), "x")
	_, f := iterate.Zone(good, "")
	if e != api.ErrArg || f != e {
		t.Error(e, f)
	}
}

// P28.2 to P28.7: for arbitrary known sets.
func TestLaws(t *testing.T) {
	d := sample.New(36)
	names := []string{".", "x", "y", "ns", "a.ns", "b.ns", "h.x", "t.x", "l.y"}
	for range 3000 {
		var known []api.Signed
		for range d.Roll(14) {
			known = append(known, api.Signed{Set: d.Set(names[d.Roll(9)], 1+d.Roll(3))})
		}
		x := q(names[d.Roll(9)], 1+d.Roll(8))
		n, e := iterate.Ask(known, []int{1}, x)
		if e != api.OK {
			t.Fatal(e)
		}
		if n.Kind == api.NeedAsk {
			in, _ := name.Under(n.Q.Name, n.Zone)
			if !in || n.Q.Type == api.TypeAnchor && n.Q.Name == n.Zone && n.Zone != "." {
				t.Error(known, n)
			}
			for _, addr := range n.Addrs {
				has := slices.ContainsFunc(known, func(s api.Signed) bool {
					return s.Set.Type == 1 && slices.Contains(s.Set.Data, nums(addr))
				})
				if !has && !(n.Zone == "." && addr == 1) {
					t.Error(known, n)
				}
			}
		}
		if bare, _ := iterate.Ask(nil, []int{1}, x); bare.Zone != "." || bare.Q != x || !slices.Equal(bare.Addrs, []int{1}) {
			t.Error(bare)
		}
		if i := slices.IndexFunc(known, func(s api.Signed) bool { return s.Set.Name == x.Name && s.Set.Type == x.Type }); i >= 0 {
			if n.Kind != api.NeedDone || !reflect.DeepEqual(n.Sets, known[i:i+1]) {
				t.Error(known, x, n)
			}
		} else if k := slices.IndexFunc(known, func(s api.Signed) bool { return s.Set.Name == x.Name && s.Set.Type == 3 }); k >= 0 && x.Type != 8 {
			m, _ := iterate.Ask(known, []int{1}, q(known[k].Set.Data[0].Text, x.Type))
			if m.Kind == api.NeedDone && len(m.Sets) < 9 {
				m.Sets = append([]api.Signed{known[k]}, m.Sets...)
			}
			if n.Kind != api.NeedDark && !reflect.DeepEqual(n, m) {
				t.Error(known, x, n, m)
			}
		}
		servers(t, known, x, n)
	}
}

// servers checks what the servers of a zone, and an address of one of them, change.
func servers(t *testing.T, known []api.Signed, x api.Question, n api.Next) {
	if n.Kind != api.NeedAsk || n.Q != x {
		return
	}
	zone := "x"
	in, _ := name.Under(x.Name, zone)
	bad := func(s api.Signed) bool {
		return s.Set.Name == zone && s.Set.Type == 2 || s.Set.Name == "new.q" || s.Set.Name == x.Name && s.Set.Type == 3
	}
	if !in || x == q(zone, 6) || x == q(zone, 2) || slices.ContainsFunc(known, bad) {
		return
	}
	more := append(slices.Clone(known), signed(zone, 2, 5, text("new.q")), signed("new.q", 1, 5, nums(77)))
	m, _ := iterate.Ask(more, []int{1}, x)
	if below, _ := name.Under(m.Zone, zone); m.Kind != api.NeedAsk || !below {
		t.Error(known, x, m)
	}
}

// P28.1: the edges of known sets, hints and questions, and memory of its own.
func TestEdges(t *testing.T) {
	good := []api.Signed{signed("x", 2, 5, text("a.ns")), signed("a.ns", 1, 5, nums(4))}
	many := slices.Repeat(good[:1], 401)
	for n, want := range map[int]api.Errno{400: api.OK, 401: api.ErrArg} {
		_, e := iterate.Ask(many[:n], []int{1}, q("y", 1))
		_, f := iterate.Zone(many[:n], "y")
		if e != want || f != want {
			t.Error(n, e, f)
		}
	}
	for n, want := range map[int]api.Errno{0: api.ErrArg, 1: api.OK, 1000000: api.OK, 1000001: api.ErrArg} {
		if _, e := iterate.Ask(good, []int{1, n}, q("y", 1)); e != want {
			t.Error(n, e)
		}
	}
	nine := []int{1, 2, 3, 4, 5, 6, 7, 8, 9}
	for n, want := range map[int]api.Errno{0: api.ErrArg, 1: api.OK, 8: api.OK, 9: api.ErrArg} {
		if x, e := iterate.Ask(good, nine[:n], q("y", 1)); e != want || e == api.OK && !slices.Equal(x.Addrs, nine[:n]) {
			t.Error(n, e)
		}
	}
	for typ, want := range map[int]api.Errno{0: api.ErrArg, 1: api.OK, 8: api.OK, 9: api.ErrArg} {
		if _, e := iterate.Ask(good, nine[:1], q("y", typ)); e != want {
			t.Error(typ, e)
		}
	}
	if z, e := iterate.Zone([]api.Signed{{}}, "x"); e != api.ErrArg || z != "" {
		t.Error(z, e)
	}
	hints := []int{5, 6}
	x, _ := iterate.Ask(nil, hints, q("y", 1))
	y, _ := iterate.Ask(good, hints, q("a.ns", 1))
	x.Addrs[0], y.Sets[0].Set.Data[0].N = 99, 99
	if hints[0] == 99 || good[1].Set.Data[0].N == 99 {
		t.Error("shared memory")
	}
}

package run_test

import (
	"reflect"
	"slices"
	"testing"

	"nameplan/api"
	"nameplan/cache"
	"nameplan/history"
	"nameplan/holds"
	"nameplan/run"
	"nameplan/sample"
	"nameplan/transcript"
	"nameplan/value"
	"nameplan/world"
)

func q(n string, typ int) api.Question { return api.Question{Name: n, Type: typ} }

var asked = []api.Question{q("w.x", 1), q("l.x", 5), q("q.x", 5), q("t.y.x", 5), q("q", 1), q("w.x", 5), q("y.x", 6), q("x", 7), q(".", 7), q("t.y.x", 1), q("a.ns", 1)}

// P33.1: the example of the document.
func TestExample(t *testing.T) {
	root := sample.Sealed(sample.With(sample.Bare(".", 1, "a"), sample.Signed("t", 5, 10, sample.Text("t"))), 0, 90, 1)
	h := api.History{Hosts: []api.Host{{Name: "a", Addr: 1}}, Copies: []api.Copy{{Until: 50, Zone: root}}, Anchor: sample.Signed(".", 6, 5, sample.Nums(1, 1)).Set, Hints: []int{1}, End: 60}
	x, c, e := run.Resolve(h, api.Cache{}, q("t", 5), 5, nil)
	if e != api.OK || x.Result.Kind != api.Secure || len(x.Heard) != 2 || x.Heard[0].Q != q("t", 5) || x.Heard[1].Q != q(".", 7) || x.Heard[1].Addr != 1 || x.At != 5 || len(c.List) != 2 {
		t.Error(x, c, e)
	}
	x, c, e = run.Resolve(h, c, q("t", 5), 55, nil)
	if e != api.OK || x.Result.Kind != api.Missing || len(x.Heard) != 1 || x.Heard[0].Answer.Kind != api.AnsRefused || len(x.Cache.List) != 2 || len(c.List) != 0 {
		t.Error(x, c, e)
	}
	h.Hints = []int{9}
	if x, _, e := run.Resolve(h, api.Cache{}, q("t", 5), 5, nil); e != api.OK || x.Result.Kind != api.Missing || x.Heard[0].Answer.Kind != 0 || x.Heard[0].Addr != 9 {
		t.Error(x, e)
	}
}

// P1: errors.
func TestErrors(t *testing.T) {
	h := sample.Tree()
	for i, f := range []func() (api.Transcript, api.Cache, api.Errno){
		func() (api.Transcript, api.Cache, api.Errno) {
			return run.Resolve(api.History{}, api.Cache{}, q("x", 1), 0, nil)
		},
		func() (api.Transcript, api.Cache, api.Errno) {
			return run.Resolve(h, api.Cache{List: make([]api.Entry, 1)}, q("x", 1), 0, nil)
		},
		func() (api.Transcript, api.Cache, api.Errno) {
			return run.Resolve(h, api.Cache{}, q("x", 9), 0, nil)
		},
		func() (api.Transcript, api.Cache, api.Errno) {
			return run.Resolve(h, api.Cache{}, q("x", 1), -1, nil)
		},
		func() (api.Transcript, api.Cache, api.Errno) {
			return run.Resolve(h, api.Cache{}, q("x", 1), 100, nil)
		},
		func() (api.Transcript, api.Cache, api.Errno) {
			return run.Resolve(h, api.Cache{}, q("x", 1), 0, []int{-1})
		},
		func() (api.Transcript, api.Cache, api.Errno) {
			return run.Resolve(h, api.Cache{}, q("x", 1), 0, []int{1000001})
		},
		func() (api.Transcript, api.Cache, api.Errno) {
			return run.Resolve(h, api.Cache{}, q("x", 1), 0, make([]int, 41))
		},
	} {
		if x, c, e := f(); e != api.ErrArg || x.Q.Type != 0 || len(c.List) > 0 {
			t.Error(i, e)
		}
	}
	ok := api.Heard{At: 5, Q: q("x", 1)}
	for i, l := range [][]api.Heard{slices.Repeat([]api.Heard{ok}, 101), {{At: 5}}, {{At: 100, Q: ok.Q}}, {{At: -1, Q: ok.Q}}, {ok, {At: 4, Q: ok.Q}}} {
		if c, e := run.Warm(h, l, nil); e != api.ErrArg || len(c.List) > 0 {
			t.Error(i, e)
		}
	}
	_, e := run.Warm(h, nil, make([]int, 41))
	_, f := run.Warm(api.History{}, nil, nil)
	if e != api.ErrArg || f != e {
		t.Error(e, f)
	}
}

// P33.2 to P33.7: resolvers over a tree that changes, with any picks.
func TestLaws(t *testing.T) {
	d := sample.New(39)
	h := sample.Tree()
	for i := range h.Copies {
		if d.Roll(2) == 0 {
			c := h.Copies[i]
			h.Copies[i].Until = 50
			c.From = 50
			h.Copies = append(h.Copies, c)
		}
	}
	h.Copies[3].Until = 70
	for range 12 {
		var c api.Cache
		var warm []api.Heard
		var picks []int
		for range 40 {
			picks = append(picks, d.Roll(1000))
		}
		at := 0
		for range 8 {
			at += d.Roll(15)
			x := asked[d.Roll(len(asked))]
			y, after, e := run.Resolve(h, c, x, min(99, at), picks)
			if e != api.OK || !reflect.DeepEqual(y.Cache.List, c.List) {
				t.Fatal(e)
			}
			check(t, h, y, after)
			warm = append(warm, api.Heard{At: min(99, at), Q: x})
			c = after
			got, e := run.Warm(h, warm, picks)
			if e != api.OK || !reflect.DeepEqual(got, c) {
				t.Error("warm", e)
			}
		}
	}
}

// check checks a transcript over a history, and the cache after it.
func check(t *testing.T, h api.History, y api.Transcript, after api.Cache) {
	if y.Result.Kind == api.Bogus {
		t.Error(y.Q, y.Result)
	}
	v, e := transcript.Replay(y, h.Anchor, h.Hints, h.Drift)
	if e != api.OK || v.Kind != y.Result.Kind || v.Q != y.Result.Q || !value.SameSigneds(v.Sets, y.Result.Sets) {
		t.Error(y.Q, v, e)
	}
	w, _ := history.At(h, y.At)
	for _, x := range y.Heard {
		if a, e := world.Ask(w, x.Addr, x.Q); e != api.OK || !value.SameAnswer(a, x.Answer) || x.At != y.At {
			t.Error(x, e)
		}
	}
	if ok, e := holds.Allowed(h, after, y.At); !ok || e != api.OK {
		t.Error("the cache is not allowed", e)
	}
	for _, s := range v.Sets {
		same := func(r api.Signed) bool { return value.SameSigned(r, s) }
		served := slices.ContainsFunc(w.Zones, func(p api.Placed) bool { return slices.ContainsFunc(p.Zone.Sets, same) })
		if !served && !slices.ContainsFunc(y.Cache.List, func(e api.Entry) bool { return same(e.Signed) }) {
			t.Error(s, "is neither served nor cached")
		}
	}
	alone := h
	alone.Copies = nil
	for _, c := range h.Copies {
		if c.From <= y.At && y.At < c.Until {
			c.From, c.Until = y.At, y.At+1
			alone.Copies = append(alone.Copies, c)
		}
	}
	if x, _, _ := run.Resolve(alone, y.Cache, y.Q, y.At, nil); x.Result.Kind != y.Result.Kind {
		t.Error(y.Q, "other times matter")
	}
	if y.Result.Kind != api.Secure {
		return
	}
	usable, _ := cache.Known(after, y.At)
	for _, s := range v.Sets {
		if !slices.ContainsFunc(usable, func(r api.Signed) bool { return value.SameSigned(r, s) }) {
			return
		}
	}
	if x, _, _ := run.Resolve(h, after, y.Q, y.At, nil); x.Result.Kind != api.Secure || len(x.Heard) > 0 {
		t.Error(y.Q, "is asked again", x.Result, len(x.Heard))
	}
}

// P33.1: picks, and the edges of all arguments.
func TestEdges(t *testing.T) {
	h := sample.Tree()
	for _, c := range []struct {
		picks []int
		addr  int
	}{{nil, 1}, {[]int{0}, 1}, {[]int{1}, 2}, {[]int{2}, 1}, {[]int{1000000}, 1}, {[]int{999999}, 2}} {
		x, _, e := run.Resolve(h, api.Cache{}, q("w.x", 1), 5, c.picks)
		if e != api.OK || x.Heard[0].Addr != c.addr || x.Result.Kind != api.Secure {
			t.Error(c, x.Heard, e)
		}
	}
	x, _, _ := run.Resolve(h, api.Cache{}, q("w.x", 1), 5, []int{0, 0, 1})
	if x.Heard[0].Addr != 1 || x.Heard[1].Addr != 3 || x.Heard[2].Addr != 2 {
		t.Error(x.Heard)
	}
	for typ, want := range map[int]api.Errno{0: api.ErrArg, 1: api.OK, 8: api.OK, 9: api.ErrArg} {
		_, _, e := run.Resolve(h, api.Cache{}, q("w.x", typ), 5, nil)
		_, f := run.Warm(h, []api.Heard{{At: 5, Q: q("w.x", typ)}}, nil)
		if e != want || f != want {
			t.Error(typ, e, f)
		}
	}
	for at, want := range map[int]api.Errno{-1: api.ErrArg, 0: api.OK, 99: api.OK, 100: api.ErrArg} {
		_, _, e := run.Resolve(h, api.Cache{}, q("w.x", 1), at, nil)
		_, f := run.Warm(h, []api.Heard{{At: at, Q: q("w.x", 1)}}, nil)
		if e != want || f != want {
			t.Error(at, e, f)
		}
	}
	for n, want := range map[int]api.Errno{40: api.OK, 41: api.ErrArg} {
		if _, _, e := run.Resolve(h, api.Cache{}, q("w.x", 1), 5, make([]int, n)); e != want {
			t.Error(n, e)
		}
	}
	for n, want := range map[int]api.Errno{100: api.OK, 101: api.ErrArg} {
		if _, e := run.Warm(h, slices.Repeat([]api.Heard{{At: 5, Q: q("w.x", 1)}}, n), nil); e != want {
			t.Error(n, e)
		}
	}
	_, c, _ := run.Resolve(h, api.Cache{}, q("w.x", 1), 5, nil)
	y, after, _ := run.Resolve(h, c, q("w.x", 1), 5, nil)
	y.Cache.List[0].Signed.Set.Life = 77
	y.Cache.List[0].Signed.Set.Data[0].N = 77
	if after.List[0].Signed.Set.Life == 77 || c.List[0].Signed.Set.Data[0].N == 77 || after.List[0].Signed.Set.Data[0].N == 77 {
		t.Error("shared memory")
	}
}

// P33.1: after 40 addresses it is dark.
func TestHops(t *testing.T) {
	h := api.History{Anchor: sample.Signed(".", 6, 5, sample.Nums(1, 1)).Set, Hints: []int{1}, End: 60}
	root := sample.Bare(".", 1, "a")
	for i := range 8 {
		h.Hosts = append(h.Hosts, api.Host{Name: "a", Addr: i + 1})
		root = sample.With(root, sample.Signed("a", 1, 10, sample.Nums(1), sample.Nums(2), sample.Nums(3), sample.Nums(4), sample.Nums(5), sample.Nums(6), sample.Nums(7), sample.Nums(8)))
	}
	long := sample.Sealed(root, 0, 900, 1)
	for host := range 8 {
		h.Copies = append(h.Copies, api.Copy{Host: host, Until: 60, Zone: long})
	}
	names := []string{"h", "g", "f", "e", "d", "c", "b", "a"}
	n := ""
	var zones []string
	for _, l := range names[:7] {
		n = sample.Below(l, map[bool]string{true: ".", false: n}[n == ""])
		zones = append(zones, n)
	}
	for i := len(zones) - 1; i >= 0; i-- {
		z := sample.Bare(zones[i], 1, "a")
		if i+1 < len(zones) {
			z = sample.With(z, sample.Signed(zones[i+1], 2, 10, sample.Text("a")), sample.Signed(zones[i+1], 6, 10, sample.Nums(i+3, 1)))
		} else {
			z = sample.With(z, sample.Signed("t."+zones[i], 5, 10, sample.Text("t")))
		}
		h.Copies = append(h.Copies, api.Copy{Host: i % 8, Until: 60, Zone: sample.Sealed(z, 0, 900, i+2)})
	}
	root = sample.With(root, sample.Signed(zones[0], 2, 10, sample.Text("a")), sample.Signed(zones[0], 6, 10, sample.Nums(2, 1)))
	for host := range 8 {
		h.Copies[host].Zone = sample.Sealed(root, 0, 900, 1)
	}
	picks := slices.Repeat([]int{7, 6, 5, 4}, 10)
	x, _, e := run.Resolve(h, api.Cache{}, q("t."+zones[6], 5), 5, picks)
	if e != api.OK || len(x.Heard) > 40 || x.Result.Kind == api.Bogus || x.Result.Kind == api.Missing && len(x.Heard) != 40 {
		t.Error(x.Result, len(x.Heard), e)
	}
	if v, e := transcript.Replay(x, h.Anchor, h.Hints, h.Drift); e != api.OK || v.Kind != x.Result.Kind {
		t.Error(v, e)
	}
}

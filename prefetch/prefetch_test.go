package prefetch_test

import (
	"reflect"
	"slices"
	"strconv"
	"testing"

	"nameplan/api"
	"nameplan/cache"
	"nameplan/prefetch"
	"nameplan/sample"
)

func q(n string, typ int) api.Question { return api.Question{Name: n, Type: typ} }

var addr = sample.Signed("w.x", 1, 5, sample.Nums(7))

// P32.1, P32.2: what is due.
func TestDue(t *testing.T) {
	c, _ := cache.Put(api.Cache{}, sample.Signed("w.x", 1, 40, sample.Nums(7)), "x", 10)
	c, _ = cache.Put(c, sample.Signed("w.x", 1, 38, sample.Nums(7)), ".", 10)
	c, _ = cache.Deny(c, q("d.x", 1), "x", 40, 10)
	c, _ = cache.Put(c, sample.Signed("v.x", 1, 39, sample.Nums(7)), "x", 10)
	uses := []api.Use{{Q: q("v.x", 1), Times: 9}, {Q: q("w.x", 1), Times: 3}, {Q: q("d.x", 1), Times: 9}}
	wx, vx := q("w.x", 1), q("v.x", 1)
	for i, x := range []struct {
		now, early, often int
		want              []api.Question
	}{{45, 5, 3, []api.Question{wx, vx}}, {45, 4, 3, []api.Question{wx, vx}}, {45, 3, 3, []api.Question{wx}}, {45, 2, 3, nil}, {45, 5, 4, []api.Question{vx}}, {45, 5, 10, nil}, {49, 1, 0, []api.Question{wx}}, {50, 5, 0, nil}, {10, 1000000, 1, []api.Question{wx, vx}}, {49, 0, 0, nil}} {
		l, e := prefetch.Due(c, uses, x.now, x.early, x.often)
		if e != api.OK || !slices.Equal(l, x.want) {
			t.Error(i, l, e)
		}
		for _, y := range l {
			entry, ok, _ := cache.Get(c, y, x.now)
			more, _ := prefetch.Due(c, uses, x.now, min(1000000, x.early+1), x.often)
			fewer, _ := prefetch.Due(c, uses, x.now, x.early, max(0, x.often-1))
			if !ok || entry.Until <= x.now || !slices.Contains(more, y) || !slices.Contains(fewer, y) {
				t.Error(i, y)
			}
		}
	}
	if l, e := prefetch.Due(c, nil, 45, 5, 0); e != api.OK || len(l) > 0 {
		t.Error(l, e)
	}
	for i, f := range []func() ([]api.Question, api.Errno){
		func() ([]api.Question, api.Errno) {
			return prefetch.Due(api.Cache{List: make([]api.Entry, 1)}, uses, 1, 1, 1)
		},
		func() ([]api.Question, api.Errno) { return prefetch.Due(c, append(uses, uses[0]), 1, 1, 1) },
		func() ([]api.Question, api.Errno) { return prefetch.Due(c, []api.Use{{Q: wx}}, 1, 1, 1) },
		func() ([]api.Question, api.Errno) {
			return prefetch.Due(c, []api.Use{{Q: wx, Times: 1000001}}, 1, 1, 1)
		},
		func() ([]api.Question, api.Errno) {
			return prefetch.Due(c, []api.Use{{Q: q("x", 9), Times: 1}}, 1, 1, 1)
		},
		func() ([]api.Question, api.Errno) { return prefetch.Due(c, uses, -1, 1, 1) },
		func() ([]api.Question, api.Errno) { return prefetch.Due(c, uses, 1, -1, 1) },
		func() ([]api.Question, api.Errno) { return prefetch.Due(c, uses, 1, 1, 1000001) },
	} {
		if l, e := f(); e != api.ErrArg || len(l) > 0 {
			t.Error(i, e)
		}
	}
}

// P32.3: counting.
func TestAsked(t *testing.T) {
	uses := []api.Use{{Q: q("a", 1), Times: 999999}}
	for i := 1; i < 5; i++ {
		var e api.Errno
		if uses, e = prefetch.Asked(uses, q("b", 2)); e != api.OK || !slices.Equal(uses, []api.Use{{Q: q("a", 1), Times: 999999}, {Q: q("b", 2), Times: i}}) {
			t.Error(uses, e)
		}
	}
	uses, _ = prefetch.Asked(uses, q("a", 1))
	if uses, _ = prefetch.Asked(uses, q("a", 1)); uses[0].Times != 1000000 {
		t.Error(uses)
	}
	for i := len(uses); i < 400; i++ {
		uses, _ = prefetch.Asked(uses, q("n"+strconv.Itoa(i), 1))
	}
	_, e := prefetch.Asked(uses, q("new", 1))
	full, f := prefetch.Asked(uses, q("a", 1))
	_, g := prefetch.Asked(uses, q("", 1))
	if e != api.ErrFull || f != api.OK || len(full) != 400 || g != api.ErrArg {
		t.Error(e, f, g)
	}
}

// P32.4 to P32.7: learning.
func TestLearn(t *testing.T) {
	start := sample.Signed("x", 4, 9, sample.Nums(1, 3))
	zero := sample.Signed("x", 4, 9, sample.Nums(1, 0))
	odd := sample.Signed("w.x", 1, 5, sample.Nums(7))
	odd.Sigs = []api.Sig{{Zone: ".", Key: 1, Alg: 1, Until: 90}}
	old, _ := cache.Put(api.Cache{}, sample.Signed("old.x", 1, 2, sample.Nums(7)), "x", 0)
	old, _ = cache.Put(old, sample.Signed("new.x", 1, 90, sample.Nums(7)), "x", 0)
	for i, x := range []struct {
		a            api.Answer
		zone         string
		entries      int
		found, until int
		denied       bool
	}{
		{api.Answer{Kind: 1, Sets: []api.Signed{addr}}, "x", 2, 1, 15, false}, {api.Answer{Kind: 1, Sets: []api.Signed{odd}}, "x", 1, 0, 0, false}, {api.Answer{Kind: 1, Sets: []api.Signed{addr}}, "y", 1, 0, 0, false}, {api.Answer{Kind: 7}, "x", 1, 0, 0, false}, {api.Answer{Kind: 1, Sets: []api.Signed{start}}, "x", 1, 0, 0, false},
		{api.Answer{Kind: 5, Sets: []api.Signed{start}}, "x", 3, 1, 13, true}, {api.Answer{Kind: 6, Sets: []api.Signed{zero, start}}, "x", 3, 1, 11, true}, {api.Answer{Kind: 6}, "x", 1, 0, 0, false}, {api.Answer{Kind: 6, Sets: []api.Signed{start}}, "w.x", 1, 0, 0, false},
	} {
		c, e := prefetch.Learn(old, x.zone, q("w.x", 1), x.a, 10)
		if e != api.OK || !cache.Valid(c) || len(c.List) != x.entries || !reflect.DeepEqual(c.List[0], old.List[1]) {
			t.Error(i, c, e)
		}
		for now := 10; now < 20; now++ {
			entry, ok, _ := cache.Get(c, q("w.x", 1), now)
			if ok != (x.found == 1 && now < x.until) || ok && (len(entry.Signed.Set.Data) == 0) != x.denied {
				t.Error(i, now, entry)
			}
		}
	}
	for i, f := range []func() (api.Cache, api.Errno){
		func() (api.Cache, api.Errno) {
			return prefetch.Learn(api.Cache{List: make([]api.Entry, 1)}, "x", q("x", 1), api.Answer{Kind: 7}, 1)
		},
		func() (api.Cache, api.Errno) {
			return prefetch.Learn(old, "x", q("x", 1), api.Answer{Kind: 7}, 20000001)
		},
		func() (api.Cache, api.Errno) { return prefetch.Learn(old, "*.x", q("x", 1), api.Answer{Kind: 7}, 1) },
		func() (api.Cache, api.Errno) { return prefetch.Learn(old, "x", q("x", 9), api.Answer{Kind: 7}, 1) },
		func() (api.Cache, api.Errno) { return prefetch.Learn(old, "x", q("x", 1), api.Answer{}, 1) },
	} {
		if c, e := f(); e != api.ErrArg || len(c.List) > 0 {
			t.Error(i, e)
		}
	}
	var full api.Cache
	for i := range 400 {
		full, _ = cache.Put(full, sample.Signed("n"+strconv.Itoa(i), 1, 50, sample.Nums(1)), ".", 0)
	}
	for i, a := range []api.Answer{{Kind: 1, Sets: []api.Signed{addr}}, {Kind: 5, Sets: []api.Signed{start}}} {
		if c, e := prefetch.Learn(full, "x", q("w.x", 1), a, 1); e != api.ErrFull || len(c.List) > 0 {
			t.Error(i, e)
		}
	}
}

// P32.1: the edges of times, uses and questions.
func TestEdges(t *testing.T) {
	c, _ := cache.Put(api.Cache{}, addr, "x", 10)
	uses := []api.Use{{Q: q("w.x", 1), Times: 1000000}}
	for now, want := range map[int]api.Errno{-1: api.ErrArg, 0: api.OK, 20000000: api.OK, 20000001: api.ErrArg} {
		_, e := prefetch.Due(c, uses, now, 1, 1)
		_, f := prefetch.Learn(c, "x", q("x", 1), api.Answer{Kind: 7}, now)
		if e != want || f != want {
			t.Error(now, e, f)
		}
	}
	for n, want := range map[int]api.Errno{-1: api.ErrArg, 0: api.OK, 1000000: api.OK, 1000001: api.ErrArg} {
		_, e := prefetch.Due(c, uses, 5, n, 1)
		_, f := prefetch.Due(c, uses, 5, 1, n)
		if e != want || f != want {
			t.Error(n, e, f)
		}
	}
	var many []api.Use
	for i := range 401 {
		many = append(many, api.Use{Q: q("n"+strconv.Itoa(i), 8), Times: 1})
	}
	for n, want := range map[int]api.Errno{400: api.OK, 401: api.ErrArg} {
		_, e := prefetch.Due(c, many[:n], 5, 1, 1)
		_, f := prefetch.Asked(many[:n], q("n0", 8))
		if e != want || f != want {
			t.Error(n, e, f)
		}
	}
	for typ, want := range map[int]api.Errno{0: api.ErrArg, 1: api.OK, 8: api.OK, 9: api.ErrArg} {
		if _, e := prefetch.Asked(nil, q("x", typ)); e != want {
			t.Error(typ, e)
		}
	}
	if _, e := prefetch.Asked([]api.Use{{Q: q("x", 1)}}, q("x", 1)); e != api.ErrArg {
		t.Error(e)
	}
	bad := api.Cache{List: []api.Entry{{Zone: "x"}}}
	for i, f := range []func() (api.Cache, api.Errno){
		func() (api.Cache, api.Errno) {
			return prefetch.Learn(bad, "x", q("w.x", 1), api.Answer{Kind: 1, Sets: []api.Signed{addr}}, 5)
		},
		func() (api.Cache, api.Errno) { return prefetch.Learn(bad, "y", q("w.x", 1), api.Answer{Kind: 7}, 5) },
		func() (api.Cache, api.Errno) { return prefetch.Learn(c, "", q("w.x", 1), api.Answer{Kind: 7}, 5) },
		func() (api.Cache, api.Errno) { return prefetch.Learn(c, "*.x", q("*.x", 1), api.Answer{Kind: 7}, 5) },
		func() (api.Cache, api.Errno) { return prefetch.Learn(c, "x", q("w.x", 1), api.Answer{Kind: 4}, 5) },
	} {
		if x, e := f(); e != api.ErrArg || len(x.List) > 0 {
			t.Error(i, e)
		}
	}
}

package trust_test

import (
	"slices"
	"testing"

	"nameplan/api"
	"nameplan/sample"
	"nameplan/sign"
	"nameplan/trust"
)

var nums = sample.Nums

func key(n int) api.Key { return api.Key{N: n, Alg: 1} }

func by(s api.Signed, zone string, from, until int, keys ...int) api.Signed {
	for _, k := range keys {
		g, e := sign.Sign(s.Set, zone, key(k), from, until)
		if e != api.OK {
			panic(e)
		}
		s.Sigs = append(s.Sigs, g)
	}
	return s
}

var (
	rootAnchor = sample.Signed(".", 6, 5, nums(1, 1)).Set
	rootKeys   = by(sample.Signed(".", 7, 5, nums(1, 1)), ".", 10, 90, 1)
	anchorX    = by(sample.Signed("x", 6, 5, nums(2, 1), nums(9, 1)), ".", 10, 90, 1)
	keysX      = by(sample.Signed("x", 7, 5, nums(2, 1), nums(3, 1)), "x", 10, 90, 2)
	anchorYX   = by(sample.Signed("y.x", 6, 5, nums(4, 1)), "x", 10, 90, 3)
	keysYX     = by(sample.Signed("y.x", 7, 5, nums(4, 1)), "y.x", 10, 90, 4)
)

func all() []api.Signed {
	return []api.Signed{rootKeys, anchorX, keysX, anchorYX, keysYX}
}

// P10.1, P10.7: what is missing is asked for, one after the other.
func TestPath(t *testing.T) {
	for i, x := range []struct {
		known []api.Signed
		q     api.Question
		e     api.Errno
	}{
		{nil, api.Question{Name: "y.x", Type: 6}, api.ErrNone},
		{[]api.Signed{anchorYX}, api.Question{Name: "x", Type: 6}, api.ErrNone},
		{[]api.Signed{anchorYX, anchorX}, api.Question{Name: ".", Type: 7}, api.ErrNone},
		{[]api.Signed{anchorYX, anchorX, rootKeys}, api.Question{Name: "x", Type: 7}, api.ErrNone},
		{[]api.Signed{anchorYX, anchorX, rootKeys, keysX}, api.Question{Name: "y.x", Type: 7}, api.ErrNone},
		{all(), api.Question{}, api.OK},
	} {
		k, q, e := trust.Path(x.known, rootAnchor, "y.x", 50, 5)
		if q != x.q || e != x.e || (e == api.OK) != slices.Equal(k, []api.Key{key(4)}) {
			t.Error(i, k, q, e)
		}
	}
	if k, q, e := trust.Path([]api.Signed{rootKeys}, rootAnchor, ".", 50, 0); !slices.Equal(k, []api.Key{key(1)}) || e != api.OK || q.Name != "" {
		t.Error(k, e)
	}
}

// P10.1: each broken link is found, and arguments that are not valid.
func TestTrust(t *testing.T) {
	set := func(i int, s api.Signed) []api.Signed { l := all(); l[i] = s; return l }
	plain := func(s api.Signed) api.Signed { s.Sigs = nil; return s }
	for i, known := range [][]api.Signed{
		set(1, plain(anchorX)), set(3, plain(anchorYX)), set(0, plain(rootKeys)), set(2, plain(keysX)), set(4, plain(keysYX)),
		set(3, by(plain(anchorYX), "y.x", 10, 90, 3)), set(3, by(plain(anchorYX), "x", 10, 90, 9)), set(3, by(plain(anchorYX), ".", 10, 90, 3)),
		set(2, by(plain(keysX), "x", 10, 90, 3)), set(2, by(plain(keysX), "x", 46, 90, 2)), set(2, by(plain(keysX), "x", 10, 54, 2)),
		set(0, by(plain(rootKeys), ".", 10, 90, 2)), set(2, by(sample.Signed("x", 7, 5, nums(3, 1)), "x", 10, 90, 3)),
	} {
		if k, q, e := trust.Path(known, rootAnchor, "y.x", 50, 5); len(k) > 0 || q.Name != "" || e != api.ErrTrust {
			t.Error(i, k, q, e)
		}
	}
	if _, _, e := trust.Path(set(2, by(plain(keysX), "x", 45, 55, 2)), rootAnchor, "y.x", 50, 5); e != api.OK {
		t.Error(e)
	}
	many := slices.Repeat(all(), 81)
	for i, f := range []func() ([]api.Key, api.Question, api.Errno){
		func() ([]api.Key, api.Question, api.Errno) { return trust.Path(many, rootAnchor, "x", 50, 5) },
		func() ([]api.Key, api.Question, api.Errno) {
			return trust.Path([]api.Signed{{}}, rootAnchor, "x", 50, 5)
		},
		func() ([]api.Key, api.Question, api.Errno) { return trust.Path(all(), anchorX.Set, "x", 50, 5) },
		func() ([]api.Key, api.Question, api.Errno) { return trust.Path(all(), rootKeys.Set, "x", 50, 5) },
		func() ([]api.Key, api.Question, api.Errno) { return trust.Path(all(), api.Set{}, "x", 50, 5) },
		func() ([]api.Key, api.Question, api.Errno) { return trust.Path(all(), rootAnchor, "*.x", 50, 5) },
		func() ([]api.Key, api.Question, api.Errno) { return trust.Path(all(), rootAnchor, "", 50, 5) },
		func() ([]api.Key, api.Question, api.Errno) { return trust.Path(all(), rootAnchor, "x", -1, 5) },
		func() ([]api.Key, api.Question, api.Errno) { return trust.Path(all(), rootAnchor, "x", 10000001, 5) },
		func() ([]api.Key, api.Question, api.Errno) { return trust.Path(all(), rootAnchor, "x", 50, 1001) },
	} {
		if k, q, e := f(); len(k) > 0 || q.Name != "" || e != api.ErrArg {
			t.Error(i, k, q, e)
		}
	}
	if k, e := trust.Keys(keysX.Set); !slices.Equal(k, []api.Key{key(2), key(3)}) || e != api.OK {
		t.Error(k, e)
	}
	if k, e := trust.Keys(anchorX.Set); len(k) > 0 || e != api.ErrKind {
		t.Error(k, e)
	}
	if k, e := trust.Keys(api.Set{Type: 7}); len(k) > 0 || e != api.ErrArg {
		t.Error(k, e)
	}
	if trust.Matches(keysX.Set, keysX, 50, 0) || trust.Matches(anchorX.Set, anchorX, 50, 0) || trust.Matches(anchorYX.Set, keysX, 50, 0) || !trust.Matches(anchorX.Set, keysX, 50, 0) || trust.Matches(anchorX.Set, keysX, 50, -1) {
		t.Error("matches")
	}
}

// P10.2, P10.3, P10.4: signed sets, changes, and times.
func TestSigned(t *testing.T) {
	s := by(sample.Signed("w.x", 1, 5, nums(7)), "x", 20, 40, 3)
	if trust.Signed(s, "x", []api.Key{key(3)}, 30, -1) || trust.Signed(s, "x", nil, 30, 0) || trust.Signed(api.Signed{}, "x", nil, 30, 0) {
		t.Error("signed")
	}
	for drift := range 12 {
		for at := range 60 {
			want := at-drift >= 20 && at+drift <= 40
			if trust.Signed(s, "x", []api.Key{key(9), key(3)}, at, drift) != want {
				t.Error(at, drift)
			}
		}
	}
	for bit := range 64 {
		c := s
		c.Sigs = slices.Clone(s.Sigs)
		c.Sigs[0].Sum ^= 1 << bit
		if trust.Signed(c, "x", []api.Key{key(3)}, 30, 0) {
			t.Error(bit)
		}
	}
	other := s
	other.Set.Life = 6
	if trust.Signed(other, "x", []api.Key{key(3)}, 30, 0) || trust.Signed(s, ".", []api.Key{key(3)}, 30, 0) || trust.Signed(s, "x", []api.Key{{N: 3, Alg: 2}}, 30, 0) {
		t.Error("changes")
	}
}

// P10.5, P10.6: the sets of the way hold each other; further sets change nothing.
func TestChains(t *testing.T) {
	d := sample.New(14)
	wrong := []api.Signed{by(sample.Signed("x", 7, 5, nums(5, 1)), "x", 10, 90, 5), by(sample.Signed("y.x", 6, 5, nums(6, 1)), ".", 10, 90, 1)}
	pool := append(all(), wrong...)
	for range 500 {
		var known []api.Signed
		for range d.Roll(12) {
			known = append(known, pool[d.Roll(len(pool))])
		}
		k, q, e := trust.Path(known, rootAnchor, "y.x", 50, 5)
		k2, q2, e2 := trust.Path(append(slices.Clone(known), pool...), rootAnchor, "y.x", 50, 5)
		if e != api.ErrNone && (e2 != e || q2 != q || !slices.Equal(k, k2)) {
			t.Error(e, e2)
		}
		missing := func(s api.Signed) bool { return s.Set.Name == q.Name && s.Set.Type == q.Type }
		if e == api.ErrNone && slices.ContainsFunc(known, missing) {
			t.Error(q, "is known")
		}
		if e == api.OK && (!trust.Matches(rootAnchor, rootKeys, 50, 5) || !slices.Equal(k, []api.Key{key(4)})) {
			t.Error(k)
		}
		if e == api.ErrNone {
			for _, s := range all() {
				if missing(s) {
					if _, q3, e3 := trust.Path(append(slices.Clone(known), s), rootAnchor, "y.x", 50, 5); e3 == api.ErrNone && q3 == q {
						t.Error(q, "again")
					}
				}
			}
		}
	}
}

// P10.1: the edges of times, and of the number of known sets, and sets that are not valid.
func TestEdges(t *testing.T) {
	forever := func(s api.Signed) api.Signed { s.Sigs = nil; return by(s, ".", 0, 20000000, 1) }
	for _, c := range []struct {
		at, drift int
		good      bool
	}{{0, 0, true}, {10000000, 0, true}, {10000000, 1000, true}, {10000001, 0, false}, {5000, 1001, false}, {-1, 0, false}, {0, -1, false}, {1, 1, true}, {0, 1, false}} {
		s := forever(rootKeys)
		if trust.Signed(s, ".", []api.Key{key(1)}, c.at, c.drift) != c.good || trust.Matches(rootAnchor, s, c.at, c.drift) != c.good {
			t.Error(c)
		}
		_, _, e := trust.Path([]api.Signed{s}, rootAnchor, ".", c.at, c.drift)
		if (e == api.OK) != c.good || c != struct {
			at, drift int
			good      bool
		}{0, 1, false} && !c.good && e != api.ErrArg {
			t.Error(c, e)
		}
	}
	many := slices.Repeat([]api.Signed{rootKeys}, 401)
	if _, _, e := trust.Path(many[:400], rootAnchor, ".", 50, 5); e != api.OK {
		t.Error(e)
	}
	if _, _, e := trust.Path(many, rootAnchor, ".", 50, 5); e != api.ErrArg {
		t.Error(e)
	}
	empty := api.Set{Name: ".", Type: 6}
	if _, _, e := trust.Path(all(), empty, ".", 50, 5); e != api.ErrArg {
		t.Error(e)
	}
	turned := anchorX.Set
	turned.Data = []api.Datum{nums(9, 1), nums(2, 1)}
	own := by(sample.Signed("x", 6, 5, nums(2, 1)), "x", 10, 90, 2)
	if trust.Matches(turned, keysX, 50, 0) || trust.Matches(anchorX.Set, own, 50, 0) || trust.Matches(keysX.Set, keysX, 50, 0) {
		t.Error("matches")
	}
}

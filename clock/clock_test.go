package clock_test

import (
	"testing"

	"nameplan/api"
	"nameplan/clock"
)

var clocks = []api.Clock{{}, {Off: 2, Every: -10}, {Off: -1000, Every: 2}, {Off: 1000, Every: -2}, {Off: 5, Every: 10000000}, {Off: -3, Every: 7}, {Off: 0, Every: -10000000}, {Off: 7}}

// P24.1: the example of the document, and errors.
func TestExample(t *testing.T) {
	c := api.Clock{Off: 2, Every: -10}
	for at, want := range map[int]int{0: 2, 9: 11, 10: 11, 49: 47, 20000000: 18000002} {
		if n, e := clock.Show(c, at); n != want || e != api.OK {
			t.Error(at, n, e)
		}
	}
	if a, b, ok, e := clock.Times(c, 11, 100); a != 9 || b != 11 || !ok || e != api.OK {
		t.Error(a, b, ok, e)
	}
	if a, b, ok, e := clock.Times(c, 11, 10); a != 9 || b != 10 || !ok || e != api.OK {
		t.Error(a, b, ok, e)
	}
	if ok, e := clock.Within(c, 2, 50); !ok || e != api.OK {
		t.Error(ok, e)
	}
	if ok, e := clock.Within(c, 2, 51); ok || e != api.OK {
		t.Error(ok, e)
	}
	for _, c := range []api.Clock{{Off: 1001}, {Off: -1001}, {Every: 1}, {Every: -1}, {Every: 10000001}, {Every: -10000001}} {
		n, e := clock.Show(c, 1)
		a, b, ok, f := clock.Times(c, 1, 1)
		in, g := clock.Within(c, 1, 1)
		if clock.Valid(c) || n+a+b != 0 || ok || in || e != api.ErrArg || f != e || g != e {
			t.Error(c)
		}
	}
	_, e1 := clock.Show(c, -1)
	_, e2 := clock.Show(c, 20000001)
	_, _, _, e3 := clock.Times(c, 1, 0)
	_, _, _, e4 := clock.Times(c, 1, 20000001)
	_, e5 := clock.Within(c, -1, 1)
	_, e6 := clock.Within(c, 1001, 1)
	_, e7 := clock.Within(c, 1, 0)
	for i, e := range []api.Errno{e1, e2, e3, e4, e5, e6, e7} {
		if e != api.ErrArg {
			t.Error(i, e)
		}
	}
	if a, b, ok, e := clock.Times(c, -1<<63, 20000000); a+b != 0 || ok || e != api.OK {
		t.Error(a, b, ok, e)
	}
}

// P24.2 to P24.6.
func TestLaws(t *testing.T) {
	for _, c := range clocks {
		if !clock.Valid(c) {
			t.Fatal(c)
		}
		old, _ := clock.Show(c, 0)
		for at := 1; at < 300; at++ {
			n, _ := clock.Show(c, at)
			if n < old {
				t.Error(c, at)
			}
			old = n
		}
		for shown := -1010; shown < 1400; shown += 3 {
			a, b, ok, _ := clock.Times(c, shown, 300)
			for at := range 300 {
				n, _ := clock.Show(c, at)
				in := ok && a <= at && at < b
				if in != (n == shown) || ok && (at < a) != (n < shown) || ok && (at >= b) != (n > shown) {
					t.Fatal(c, shown, at, a, b)
				}
			}
		}
		before := map[int]bool{}
		for _, end := range []int{1, 2, 10, 51, 300} {
			for drift := range 12 {
				ok, _ := clock.Within(c, drift, end)
				all := true
				for at := range end {
					n, _ := clock.Show(c, at)
					all = all && n-at <= drift && at-n <= drift
				}
				if less, _ := clock.Within(c, max(0, drift-1), end); ok != all || less && !ok || ok && end > 1 && !before[drift] {
					t.Error(c, end, drift, ok)
				}
				before[drift] = ok
			}
		}
		if c.Every == 0 {
			continue
		}
		step := max(c.Every, -c.Every)
		for _, k := range []int{0, 1} {
			n, _ := clock.Show(c, k*step)
			m, e := clock.Show(c, (k+1)*step)
			if gain := m - n - step; e == api.OK && gain != c.Every/step {
				t.Error(c, gain)
			}
		}
	}
}

// P24.1: the edges of ends and drifts.
func TestEdges(t *testing.T) {
	for end, want := range map[int]api.Errno{0: api.ErrArg, 1: api.OK, 20000000: api.OK, 20000001: api.ErrArg} {
		_, _, ok, e := clock.Times(api.Clock{}, 0, end)
		in, f := clock.Within(api.Clock{}, 0, end)
		if e != want || f != want || ok != (want == api.OK) || in != ok {
			t.Error(end, e, f)
		}
	}
	for drift, want := range map[int]api.Errno{-1: api.ErrArg, 0: api.OK, 1000: api.OK, 1001: api.ErrArg} {
		if in, e := clock.Within(api.Clock{}, drift, 5); e != want || in != (e == api.OK) {
			t.Error(drift, e)
		}
	}
	if n, e := clock.Show(api.Clock{Off: -7}, 20000000); n != 19999993 || e != api.OK {
		t.Error(n, e)
	}
	if in, e := clock.Within(api.Clock{Off: 3, Every: -2}, 3, 2); !in || e != api.OK {
		t.Error(in, e)
	}
	if in, e := clock.Within(api.Clock{Off: 4, Every: -2}, 3, 9); in || e != api.OK {
		t.Error(in, e)
	}
}

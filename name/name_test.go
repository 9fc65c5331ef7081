package name_test

import (
	"slices"
	"strings"
	"testing"

	"nameplan/api"
	"nameplan/name"
	"nameplan/sample"
)

// P1, P1.1: what is no name is refused by all functions, with zero results.
func TestRefused(t *testing.T) {
	for _, s := range sample.NotNames() {
		if name.Valid(s) {
			t.Errorf("%q is valid", s)
		}
		if l, e := name.Labels(s); e != api.ErrName || len(l) > 0 {
			t.Errorf("Labels %q: %v %v", s, l, e)
		}
		if p, e := name.Parent(s); e != api.ErrName || p != "" {
			t.Errorf("Parent %q: %v %v", s, p, e)
		}
		for _, pair := range [][2]string{{s, "a"}, {"a", s}, {s, s}} {
			if is, e := name.Under(pair[0], pair[1]); e != api.ErrName || is {
				t.Errorf("Under %q: %v %v", pair, is, e)
			}
			if c, e := name.Compare(pair[0], pair[1]); e != api.ErrName || c != 0 {
				t.Errorf("Compare %q: %v %v", pair, c, e)
			}
			if c, e := name.Common(pair[0], pair[1]); e != api.ErrName || c != "" {
				t.Errorf("Common %q: %v %v", pair, c, e)
			}
		}
	}
	if p, e := name.Parent("."); p != "" || e != api.ErrNone {
		t.Errorf("Parent of the root: %q %v", p, e)
	}
}

// P1.1: names at the limits, and just behind them.
func TestLimits(t *testing.T) {
	long := strings.Repeat("abcdefghij.", 5) + "abcde"
	for s, want := range map[string]bool{"abcdefghijkl": true, "abcdefghijklm": false, long: true, long + "f": false, "a.b.c.d.e.f.g.h": true, "a.b.c.d.e.f.g.h.i": false, "*.b.c.d.e.f.g.h": true, "a--b": true, "0-0": true, "9": true, "z.9a": true, "a.z9": true} {
		l, e := name.Labels(s)
		if name.Valid(s) != want || (e == api.OK) != want || want != (len(l) > 0) {
			t.Errorf("%q: %v %v", s, l, e)
		}
		if back, e := name.Join(strings.Split(s, ".")); (e == api.OK) != want || want && back != s {
			t.Errorf("%q: %q %v", s, back, e)
		}
	}
	l, _ := name.Labels("a.b")
	if more := append(l, "c"); len(l) != 2 || len(more) != 3 || cap(l) != 2 {
		t.Error("the labels have room for others")
	}
}

// P1.2: Labels and Join are inverse.
func TestLabels(t *testing.T) {
	for _, s := range sample.Names() {
		l, e := name.Labels(s)
		if e != api.OK {
			t.Fatalf("%q: %v", s, e)
		}
		l = append(l, "x")[:len(l)]
		if back, e := name.Join(l); back != s || e != api.OK {
			t.Errorf("%q: %q %v", s, back, e)
		}
	}
	for _, l := range [][]string{{""}, {"."}, {"a.b"}, {"a", "*"}, slices.Repeat([]string{"a"}, 9), slices.Repeat([]string{"abcdefghijkl"}, 5), {strings.Repeat("a", 13)}} {
		if s, e := name.Join(l); s != "" || e != api.ErrName {
			t.Errorf("%q: %q %v", l, s, e)
		}
	}
}

// P1.3: Compare is a total order, that of the list.
func TestOrder(t *testing.T) {
	l := sample.Names()
	for i, a := range l {
		for k, b := range l {
			want := max(-1, min(1, i-k))
			if c, e := name.Compare(a, b); c != want || e != api.OK {
				t.Errorf("%q %q: %d %v", a, b, c, e)
			}
		}
	}
}

func under(t *testing.T, a, b string) bool {
	is, e := name.Under(a, b)
	if e != api.OK {
		t.Fatalf("%q %q: %v", a, b, e)
	}
	return is
}

// P1.4: a partial order, in which the names above a name are its parents.
func TestTree(t *testing.T) {
	l := sample.Names()
	for _, a := range l {
		above := []string{a}
		for p, e := name.Parent(a); e == api.OK; p, e = name.Parent(p) {
			above = append(above, p)
		}
		if above[len(above)-1] != "." {
			t.Errorf("%q does not lead to the root: %q", a, above)
		}
		for _, b := range l {
			if under(t, a, b) != slices.Contains(above, b) {
				t.Errorf("%q under %q", a, b)
			}
			if a != b && under(t, a, b) && under(t, b, a) {
				t.Errorf("%q and %q are under each other", a, b)
			}
		}
	}
}

// P1.5: the names under a name are a stretch that begins with it.
func TestStretch(t *testing.T) {
	l := sample.Names()
	for i, a := range l {
		inside := true
		for _, b := range l[i:] {
			is := under(t, b, a)
			if is && !inside {
				t.Errorf("%q is under %q, but behind the stretch", b, a)
			}
			inside = is
		}
		for _, b := range l[:i] {
			if under(t, b, a) {
				t.Errorf("%q comes before %q", b, a)
			}
		}
	}
}

// P1.6: the common name has just the names above that both have.
func TestCommon(t *testing.T) {
	l := sample.Names()
	for _, a := range l {
		for _, b := range l {
			c, e := name.Common(a, b)
			if e != api.OK {
				t.Fatal(e)
			}
			for _, x := range l {
				if (under(t, a, x) && under(t, b, x)) != under(t, c, x) {
					t.Errorf("%q %q: %q, and %q", a, b, c, x)
				}
			}
		}
	}
}

// P1.7: a label in front of both names changes no order.
func TestBelow(t *testing.T) {
	l := sample.Names()
	for _, a := range l {
		for _, b := range l {
			if under(t, a, b) || under(t, b, a) || a[0] == '*' || b[0] == '*' {
				continue
			}
			c, _ := name.Compare(a, b)
			for _, front := range []string{"*", "a", "zz"} {
				if d, e := name.Compare(front+"."+a, front+"."+b); len(a) < 14 && len(b) < 14 && (d != c || e != api.OK) {
					t.Errorf("%q in front of %q and %q: %d %v", front, a, b, d, e)
				}
			}
		}
	}
}

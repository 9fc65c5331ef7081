package delta_test

import (
	"reflect"
	"slices"
	"strconv"
	"testing"

	"nameplan/api"
	"nameplan/delta"
	"nameplan/sample"
	"nameplan/value"
	"nameplan/zone"
)

var text, nums, signed = sample.Text, sample.Nums, sample.Signed

func serial(z api.Zone, n int) api.Zone {
	s, _, _ := zone.Find(z, api.Question{Name: z.Apex, Type: 4})
	s.Set.Data[0].N = n
	out, e := zone.Put(z, s)
	if e != api.OK {
		panic(e)
	}
	return out
}

// P11.1, P11.2: serial numbers.
func TestSerials(t *testing.T) {
	for _, a := range []int{0, 1, 2, 32766, 32767, 32768, 32769, 65534, 65535} {
		n, e := delta.After(a)
		if is, _ := delta.Less(a, n); n != (a+1)%65536 || e != api.OK || !is {
			t.Error(a, n, e)
		}
		for _, b := range []int{0, 1, 32766, 32767, 32768, 65534, 65535} {
			ab, e := delta.Less(a, b)
			ba, _ := delta.Less(b, a)
			d := (b - a + 65536) % 65536
			if e != api.OK || ab != (d >= 1 && d <= 32767) || (d != 0 && d != 32768) != (ab != ba) {
				t.Error(a, b, ab, ba)
			}
		}
		for _, b := range []int{-1, 65536} {
			x, e := delta.Less(a, b)
			y, f := delta.Less(b, a)
			n, g := delta.After(b)
			if x || y || n != 0 || e != api.ErrArg || f != e || g != e {
				t.Error(a, b)
			}
		}
	}
}

// P11.1: the example of the document.
func TestExample(t *testing.T) {
	a := sample.With(sample.Bare("x", 1, "h"), signed("w.x", 1, 5, nums(7)))
	b := sample.With(sample.Bare("x", 2, "h"), signed("v.x", 1, 5, nums(7)))
	d, e := delta.Diff(a, b)
	if e != api.OK || !reflect.DeepEqual(d, api.Delta{Apex: "x", From: 1, To: 2, Drop: []api.Question{{Name: "w.x", Type: 1}}, Put: []api.Signed{b.Sets[1], b.Sets[2]}}) {
		t.Error(d, e)
	}
	if d, e := delta.Diff(b, a); e != api.ErrOld || d.Apex != "" {
		t.Error(d, e)
	}
	if d, e := delta.Diff(a, sample.Bare("y", 2, "h")); e != api.ErrArg || d.Apex != "" {
		t.Error(d, e)
	}
	f := d
	f.From, f.To, f.Drop, f.Put = 2, 3, []api.Question{{Name: "v.x", Type: 1}, {Name: "w.x", Type: 1}}, []api.Signed{signed("x", 4, 1, nums(3))}
	j, e := delta.Join(d, f)
	if e != api.OK || !reflect.DeepEqual(j, api.Delta{Apex: "x", From: 1, To: 3, Drop: []api.Question{{Name: "v.x", Type: 1}, {Name: "w.x", Type: 1}}, Put: f.Put}) {
		t.Error(j, e)
	}
}

// P11.1: errors of Apply and Join.
func TestErrors(t *testing.T) {
	z := sample.With(sample.Bare("x", 1, "h"), signed("w.x", 1, 5, nums(7)))
	start := signed("x", 4, 1, nums(2))
	good := api.Delta{Apex: "x", From: 1, To: 2, Put: []api.Signed{start}}
	for i, c := range []struct {
		change func(d *api.Delta)
		e      api.Errno
	}{
		{func(d *api.Delta) {}, api.OK}, {func(d *api.Delta) { d.Apex = "y" }, api.ErrArg}, {func(d *api.Delta) { d.Apex = "*" }, api.ErrArg}, {func(d *api.Delta) { d.From = -1 }, api.ErrArg}, {func(d *api.Delta) { d.To = 1 }, api.ErrArg}, {func(d *api.Delta) { d.To = 32769 }, api.ErrArg},
		{func(d *api.Delta) { d.Drop = []api.Question{{Name: "x", Type: 9}} }, api.ErrArg}, {func(d *api.Delta) { d.Drop = []api.Question{{Name: "x", Type: 4}} }, api.ErrArg},
		{func(d *api.Delta) { d.Put = []api.Signed{start, start} }, api.ErrArg}, {func(d *api.Delta) { d.Put = []api.Signed{signed("w.x", 1, 5)} }, api.ErrArg}, {func(d *api.Delta) { d.Put = []api.Signed{signed("w.x", 1, 5, nums(1)), start} }, api.ErrArg},
		{func(d *api.Delta) { d.From, d.To = 2, 3 }, api.ErrOld}, {func(d *api.Delta) { d.To = 3 }, api.ErrClash}, {func(d *api.Delta) { d.Drop = []api.Question{{Name: "x", Type: 2}} }, api.ErrClash}, {func(d *api.Delta) { d.Put = nil }, api.ErrClash},
		{func(d *api.Delta) { d.Put = append(d.Put, signed("y", 1, 5, nums(1))) }, api.ErrClash}, {func(d *api.Delta) { d.Drop = []api.Question{{Name: "nothing", Type: 2}} }, api.OK},
	} {
		d := good
		d.Put = slices.Clone(good.Put)
		c.change(&d)
		if out, e := delta.Apply(z, d); e != c.e || (e != api.OK) != (out.Apex == "") {
			t.Error(i, e)
		}
	}
	if out, e := delta.Apply(api.Zone{}, good); e != api.ErrArg || out.Apex != "" {
		t.Error(e)
	}
	other := good
	other.Apex, other.From, other.To = "y", 2, 3
	far := good
	far.From, far.To = 2, 32769
	for i, c := range []struct {
		e    api.Delta
		want api.Errno
	}{{other, api.ErrArg}, {api.Delta{}, api.ErrArg}, {good, api.ErrOld}, {far, api.ErrOld}} {
		if out, e := delta.Join(good, c.e); e != c.want || out.Apex != "" {
			t.Error(i, e)
		}
	}
}

// P11.1: the questions of Drop come each one before the next one, by names, and then by types.
func TestDrop(t *testing.T) {
	z := sample.With(sample.Bare("x", 2, "h"), signed("w.x", 1, 5, nums(7)))
	asks := func(name string, typ int) api.Question { return api.Question{Name: name, Type: typ} }
	start := func(n int) api.Delta {
		return api.Delta{Apex: "x", From: n - 1, To: n, Put: []api.Signed{signed("x", 4, 1, nums(n))}}
	}
	for i, c := range []struct {
		drop []api.Question
		e    api.Errno
	}{
		{nil, api.OK}, {[]api.Question{asks("w.x", 1)}, api.OK},
		{[]api.Question{asks("x", 1), asks("w.x", 1), asks("w.x", 5)}, api.OK},
		{[]api.Question{asks("w.x", 1), asks("w.x", 1)}, api.ErrArg},
		{[]api.Question{asks("w.x", 1), asks("x", 1)}, api.ErrArg},
		{[]api.Question{asks("w.x", 5), asks("w.x", 1)}, api.ErrArg},
		{[]api.Question{asks("v.x", 5), asks("w.x", 1)}, api.OK},
		{[]api.Question{asks("w.x", 1), asks("v.x", 5)}, api.ErrArg},
		{[]api.Question{asks("w.x", 1), asks("w.x", 5), asks("w.x", 1)}, api.ErrArg},
		{[]api.Question{asks("v.x", 1), asks("w.x", 1), asks("x", 1)}, api.ErrArg},
		{[]api.Question{asks(".", 8), asks("v.x", 1), asks("a.v.x", 1), asks("w.x", 1), asks("y", 1)}, api.OK},
		{[]api.Question{asks("a.v.x", 1), asks("v.x", 1)}, api.ErrArg},
		{[]api.Question{asks("v.x", 1), asks("w.x", 9)}, api.ErrArg},
		{[]api.Question{asks("v.x", 1), asks("W.x", 1)}, api.ErrArg},
		{[]api.Question{asks("", 1), asks("w.x", 1)}, api.ErrArg},
	} {
		d := start(3)
		d.Drop = c.drop
		if out, e := delta.Apply(z, d); e != c.e || (e == api.OK) != (len(out.Sets) > 0) || (e == api.OK) != (out.Apex == "x") {
			t.Error(i, e, out)
		}
		for _, both := range [][2]api.Delta{{d, start(4)}, {start(2), d}} {
			j, e := delta.Join(both[0], both[1])
			if e != c.e || e != api.OK && !reflect.DeepEqual(j, api.Delta{}) || e == api.OK && !slices.Equal(j.Drop, c.drop) {
				t.Error(i, e, j)
			}
		}
	}
}

// inForm reports whether a difference is in form: it cannot follow itself, but for no other reason.
func inForm(d api.Delta) bool {
	_, e := delta.Join(d, d)
	return e == api.ErrOld
}

// P11.3 to P11.7: differences of arbitrary versions.
func TestLaws(t *testing.T) {
	d := sample.New(15)
	for i := range 100 {
		n := i * 700 % 65536
		a, b, c := serial(d.Zone("x"), n), serial(d.Zone("x"), (n+5)%65536), serial(d.Zone("x"), (n+9)%65536)
		x, e1 := delta.Diff(a, b)
		y, e2 := delta.Diff(b, c)
		j, e3 := delta.Join(x, y)
		if e1 != api.OK || e2 != api.OK || e3 != api.OK {
			t.Fatal(e1, e2, e3)
		}
		if !inForm(x) || !inForm(y) || !inForm(j) {
			t.Error("not in form", x, y, j)
		}
		ab, e := delta.Apply(a, x)
		if e != api.OK || !value.SameZone(ab, b) || !zone.Valid(ab) {
			t.Error(e)
		}
		if ac, e := delta.Apply(a, j); e != api.OK || !value.SameZone(ac, c) {
			t.Error(e)
		}
		if out, e := delta.Apply(b, x); e != api.ErrOld || out.Apex != "" {
			t.Error(e)
		}
		for _, s := range x.Put {
			if r, ok, _ := zone.Find(a, api.Question{Name: s.Set.Name, Type: s.Set.Type}); ok && value.SameSigned(r, s) {
				t.Error("both have", s)
			}
		}
		for _, q := range x.Drop {
			if _, ok, _ := zone.Find(a, q); !ok {
				t.Error("the first zone does not have", q)
			}
		}
	}
}

// P11.1: zones that are not valid, and limits.
func TestLimits(t *testing.T) {
	z := sample.Bare("x", 1, "h")
	none := api.Zone{Apex: "x"}
	if out, e := delta.Apply(none, api.Delta{Apex: "x", From: 1, To: 2}); e != api.ErrArg || out.Apex != "" {
		t.Error(e)
	}
	for i, c := range [][2]api.Zone{{{}, z}, {z, {}}, {none, z}, {z, none}, {none, none}, {z, sample.Bare("y", 2, "h")}} {
		if d, e := delta.Diff(c[0], c[1]); e != api.ErrArg || d.Apex != "" {
			t.Error(i, e)
		}
	}
	var put []api.Signed
	var drop []api.Question
	for i := range 20001 {
		n := "n" + strconv.Itoa(100000+i) + ".x"
		put = append(put, signed(n, 1, 1, nums(1)))
		drop = append(drop, api.Question{Name: n, Type: 2})
	}
	start := []api.Signed{signed("x", 4, 1, nums(2, 5))}
	with := func(p []api.Signed, q []api.Question) api.Delta {
		return api.Delta{Apex: "x", From: 1, To: 2, Put: append(slices.Clone(start), p...), Drop: q}
	}
	for i, c := range []struct {
		d api.Delta
		e api.Errno
	}{{with(put[:19998], nil), api.OK}, {with(put[:19999], nil), api.ErrLimit}, {with(put[:20000], nil), api.ErrArg}, {with(nil, drop[:20000]), api.OK}, {with(nil, drop), api.ErrArg}, {with(nil, []api.Question{{Name: "x", Type: 1}, {Name: "x", Type: 8}}), api.OK}, {with(nil, []api.Question{{Name: "X", Type: 8}}), api.ErrArg}, {with(nil, []api.Question{{Name: "x", Type: 0}}), api.ErrArg}} {
		if out, e := delta.Apply(z, c.d); e != c.e || (e == api.OK) != (out.Apex != "") {
			t.Error(i, e)
		}
	}
	next := api.Delta{Apex: "x", From: 2, To: 3, Put: []api.Signed{signed("x", 4, 1, nums(3, 5))}}
	long := next
	long.Drop = []api.Question{{Name: "o.x", Type: 1}}
	more := next
	more.Put = append(slices.Clone(next.Put), signed("o.x", 1, 1, nums(1)))
	for i, c := range []struct {
		d, e api.Delta
		want api.Errno
	}{
		{with(put[:19999], nil), next, api.OK}, {with(put[:19999], nil), more, api.ErrLimit}, {with(put[:19998], nil), more, api.OK}, {with(nil, drop[:20000]), next, api.OK}, {with(nil, drop[:20000]), long, api.ErrLimit}, {with(nil, drop[:19999]), long, api.OK},
		{api.Delta{}, next, api.ErrArg}, {with(nil, nil), api.Delta{Apex: "y", From: 2, To: 3}, api.ErrArg}, {with(nil, nil), api.Delta{Apex: "x", From: 2, To: 2}, api.ErrArg}, {api.Delta{Apex: "*.x", From: 1, To: 2}, api.Delta{Apex: "*.x", From: 2, To: 3}, api.ErrArg}, {api.Delta{Apex: "x", From: 1, To: 65536}, next, api.ErrArg}, {api.Delta{Apex: "x", From: 1, To: 65538}, api.Delta{Apex: "x", From: 65538, To: 65539}, api.ErrArg}, {api.Delta{From: 1, To: 2}, api.Delta{From: 2, To: 3}, api.ErrArg}, {api.Delta{Apex: "X", From: 1, To: 2}, api.Delta{Apex: "X", From: 2, To: 3}, api.ErrArg}, {api.Delta{Apex: "x", From: -1, To: 2}, next, api.ErrArg},
	} {
		if out, e := delta.Join(c.d, c.e); e != c.want || (e == api.OK) != (out.Apex != "") {
			t.Error(i, e)
		}
	}
	if out, e := delta.Apply(z, api.Delta{Apex: "*.x", From: 1, To: 2}); e != api.ErrArg || out.Apex != "" {
		t.Error(e)
	}
}

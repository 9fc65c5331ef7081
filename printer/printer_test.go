package printer_test

import (
	"reflect"
	"slices"
	"strconv"
	"strings"
	"testing"

	"nameplan/api"
	"nameplan/parser"
	"nameplan/printer"
	"nameplan/record"
	"nameplan/sample"
)

func signed(name string, typ, life int, d ...api.Datum) api.Signed {
	return api.Signed{Set: api.Set{Name: name, Type: typ, Life: life, Data: d}}
}

// P5.1: the example of the document, and all other types.
func TestPrint(t *testing.T) {
	x := api.Zone{Apex: "x", Sets: []api.Signed{
		signed("x", 2, 300, api.Datum{Text: "a.ns"}, api.Datum{Text: "b.ns"}), signed("x", 4, 0, api.Datum{N: 0, M: 60}), signed("x", 7, 300, api.Datum{N: 5, M: 1}, api.Datum{N: 6, M: 2}),
		signed("*.x", 5, 300, api.Datum{Text: "a b"}), signed("a.x", 3, 300, api.Datum{Text: "life"}), signed("b.x", 6, 300, api.Datum{N: 5, M: 1}), signed("w.x", 1, 5, api.Datum{N: 7})}}
	want := "zone x {\n  @ server a.ns, b.ns;\n  @ start life 0 0 60;\n  @ key 5 1, 6 2;\n  *.x text \"a b\";\n  a.x alias life;\n  b.x anchor 5 1;\n  w.x addr life 5 7;\n}\n"
	if s, e := printer.Print([]api.Zone{x}); s != want || e != api.OK {
		t.Errorf("%s %v", s, e)
	}
	if s, e := printer.Print(nil); s != "" || e != api.OK {
		t.Error(s, e)
	}
	if s, e := printer.Print([]api.Zone{{Apex: "."}, x}); s != "zone . {\n}\n"+want || e != api.OK {
		t.Error(s, e)
	}
}

// P5.1, P5.6: errors, in their order.
func TestErrors(t *testing.T) {
	addr := func(s string) api.Signed { return signed(s, 1, 300, api.Datum{N: 7}) }
	sig := addr("a.x")
	sig.Sigs = []api.Sig{{}}
	next := signed("x", 8, 1, api.Datum{Text: "x", N: 2})
	var long, many []api.Signed
	for i := range 400 {
		long = append(long, addr("aaaaaaaaaaaa."+strconv.Itoa(10000+i)+".x"))
		many = append(many, addr("b"+strconv.Itoa(10000+i)+".x"))
	}
	zone := func(apex string, l ...api.Signed) api.Zone { return api.Zone{Apex: apex, Sets: l} }
	for i, x := range []struct {
		l []api.Zone
		e api.Errno
	}{
		{[]api.Zone{zone("X")}, api.ErrArg}, {[]api.Zone{zone("*.x")}, api.ErrArg}, {[]api.Zone{zone("x", addr("y"))}, api.ErrArg},
		{[]api.Zone{zone("x", addr("b.x"), addr("a.x"))}, api.ErrArg}, {[]api.Zone{zone("x", addr("b.x"), addr("b.x"))}, api.ErrArg}, {[]api.Zone{zone("x", signed("x", 1, 1))}, api.ErrArg},
		{[]api.Zone{zone("1"), zone("x"), zone("x"), zone("y", addr("x"))}, api.ErrArg},
		{[]api.Zone{zone("1"), zone("x"), zone("x")}, api.ErrTwice},
		{[]api.Zone{zone("x", sig)}, api.ErrKind}, {[]api.Zone{zone("x", next)}, api.ErrKind}, {[]api.Zone{zone("10")}, api.ErrKind},
		{[]api.Zone{zone(".", addr("5"))}, api.ErrKind}, {[]api.Zone{zone("x", signed("x", 2, 1, api.Datum{Text: "12"}))}, api.ErrKind}, {[]api.Zone{zone("x", signed("x", 3, 1, api.Datum{Text: "1"}))}, api.ErrKind},
		{[]api.Zone{zone("x", long...)}, api.ErrLimit}, {[]api.Zone{zone("x", many...)}, api.OK},
		{[]api.Zone{zone(".", signed("1.x", 5, 1, api.Datum{Text: "1"}))}, api.OK},
	} {
		s, e := printer.Print(x.l)
		if e != x.e || (e != api.OK) != (s == "") {
			t.Errorf("%d: %v", i, e)
		}
	}
	// 3 + 1 + 4 * 499 = 2000 tokens, in fewer than 8000 bytes
	var short []api.Signed
	for i := range 499 {
		s := addr(string([]byte{'a' + byte(i/20), 'a' + byte(i%20)}))
		short = append(short, s)
	}
	s, e := printer.Print([]api.Zone{zone(".", short...)})
	if e != api.OK || strings.Count(s, "\n") != 501 {
		t.Error(e)
	}
	if s, e := printer.Print([]api.Zone{zone(".", short...), zone("x")}); e != api.ErrLimit || s != "" {
		t.Error(e)
	}
}

func zones(d *sample.Dice) []api.Zone {
	var out []api.Zone
	for _, apex := range []string{".", "x", "ns"}[:1+d.Roll(3)] {
		var l []api.Set
		for range d.Roll(12) {
			s := d.Set(strings.Trim(strings.Trim([]string{"", "a.", "b.", "c.b.", "*."}[d.Roll(5)]+apex, "."), "0"), 1+d.Roll(7))
			if s.Name == "" {
				s.Name = "."
			}
			if record.Valid(s) {
				l = append(l, s)
			}
		}
		m, _ := record.Merge(l)
		z := api.Zone{Apex: apex}
		for _, s := range m {
			z.Sets = append(z.Sets, api.Signed{Set: s})
		}
		out = append(out, z)
	}
	return out
}

// P5.2, P5.3, P5.4, P5.5: inverse, canonical, parts, lines.
func TestLaws(t *testing.T) {
	d := sample.New(6)
	for range 200 {
		l := zones(d)
		s, e := printer.Print(l)
		if e != api.OK {
			t.Fatal(l, e)
		}
		back, wrong := parser.Parse(s)
		if len(wrong) > 0 || !reflect.DeepEqual(back, l) {
			t.Errorf("%s: %v %v", s, back, wrong)
		}
		if again, e := printer.Print(back); again != s || e != api.OK {
			t.Errorf("%s: %s %v", s, again, e)
		}
		lines, parts := 0, ""
		for _, z := range l {
			lines += len(z.Sets) + 2
			p, _ := printer.Print([]api.Zone{z})
			parts += p
		}
		if parts != s || strings.Count(s, "\n") != lines {
			t.Errorf("%s: %s", s, parts)
		}
		if z := l[0]; len(z.Sets) > 0 {
			z.Sets = append(slices.Clone(z.Sets), z.Sets[len(z.Sets)-1])
			if s, e := printer.Print([]api.Zone{z}); s != "" || e != api.ErrArg {
				t.Error(s, e)
			}
		}
	}
}

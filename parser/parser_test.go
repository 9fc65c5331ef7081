package parser_test

import (
	"reflect"
	"slices"
	"strings"
	"testing"

	"nameplan/api"
	"nameplan/lexer"
	"nameplan/name"
	"nameplan/parser"
	"nameplan/record"
	"nameplan/sample"
)

func signed(name string, typ, life int, d ...api.Datum) api.Signed {
	return api.Signed{Set: api.Set{Name: name, Type: typ, Life: life, Data: d}}
}

// P4.1: a file with all types.
func TestParse(t *testing.T) {
	source := `zone x { @ start 1 60; @ server a.ns, life; b.x addr life 0 7, 3; *.x text "b c", "a"; a.x alias .;
		c.x anchor 9 1, 2 3; @ key life 100000 1 1; d.x server life; e.x alias life 5 life; f.x server life, q; } zone zone { zone.zone addr 1; } zone . { }`
	want := []api.Zone{{Apex: "x", Sets: []api.Signed{
		signed("x", 2, 300, api.Datum{Text: "a.ns"}, api.Datum{Text: "life"}), signed("x", 4, 300, api.Datum{N: 1, M: 60}), signed("x", 7, 100000, api.Datum{N: 1, M: 1}),
		signed("*.x", 5, 300, api.Datum{Text: "a"}, api.Datum{Text: "b c"}), signed("a.x", 3, 300, api.Datum{Text: "."}), signed("b.x", 1, 0, api.Datum{N: 3}, api.Datum{N: 7}),
		signed("c.x", 6, 300, api.Datum{N: 2, M: 3}, api.Datum{N: 9, M: 1}), signed("d.x", 2, 300, api.Datum{Text: "life"}), signed("e.x", 3, 5, api.Datum{Text: "life"}), signed("f.x", 2, 300, api.Datum{Text: "life"}, api.Datum{Text: "q"}),
	}}, {Apex: "zone", Sets: []api.Signed{signed("zone.zone", 1, 300, api.Datum{N: 1})}}, {Apex: "."}}
	if z, l := parser.Parse(source); !reflect.DeepEqual(z, want) || len(l) > 0 {
		t.Errorf("%v\n%v", z, l)
	}
	if z, l := parser.Parse("# nothing\n"); len(z) > 0 || len(l) > 0 {
		t.Error(z, l)
	}
}

func diags(l ...int) []api.Diag {
	var out []api.Diag
	for i := 0; i < len(l); i += 2 {
		out = append(out, api.Diag{Err: api.Errno(l[i]), At: l[i+1]})
	}
	return out
}

// P4.1: all errors, at their places, and where reading goes on.
func TestErrors(t *testing.T) {
	for source, want := range map[string][]api.Diag{
		"zone x { y addr 1; b.x addr 0; @ alias a, b; }": diags(20, 9, 3, 28, 2, 42),
		"A":                                   diags(10, 0),
		"a zone x { } b zone y":               diags(10, 0, 10, 13, 10, 21),
		"zone *.x { q addr } } zone a.-b { }": diags(11, 5, 11, 27),
		"zone zone zone {":                    diags(10, 10, 10, 15),
		"zone 5 { }":                          diags(10, 5),
		"zone zone { } zone zone { }":         diags(5, 19, 10, 24),
		"zone x { } zone x { } zone x":        diags(5, 16, 5, 27),
		"zone x [":                            diags(10, 7),
		"zone x y { } zone x { }":             diags(10, 7, 5, 18),
		"zone x {":                            diags(10, 8),
		"zone x { a.x addr 1;  ":              diags(10, 22),
		"zone x { a.x addr ; ":                diags(10, 18, 10, 20),
		"zone x { a.x addr 1":                 diags(10, 19),
		"zone x { a.x addr 1 }":               diags(10, 20),
		"zone x { a.x addr 1 } zone x { }":    diags(10, 20, 5, 27),
		"zone x { ; b.x addr a; }":            diags(10, 9, 10, 20),
		"zone x { a..x addr 0; }":             diags(11, 9),
		"zone x { *.x server a; *.x addr 1; *.x addr 2; }":                                                              diags(12, 13, 5, 39),
		"zone x { a.x addr 0; a.x addr 1; a.x addr 2; a.x zone 5; }":                                                    diags(3, 18, 5, 37, 10, 49),
		"zone x { a.x addr life 100001 5; a.x next life 5; }":                                                           diags(3, 23, 10, 37),
		"zone x { a.x start 1 2, 3 4; b.x alias a, 5; }":                                                                diags(2, 24, 10, 42),
		"zone x { a.x addr 1,2,3,4,5,6,7,8,9; b.x addr 1,2,3,4,5,6,7,8; }":                                              diags(2, 34),
		"zone x { a.x addr 1,2,3,4,5,6,7,8,a; }":                                                                        diags(10, 34),
		"zone x { a.x addr 1000001; a.x start 65536 1; a.x start 1 100001; a.x key 0 1; a.x key 1 4; a.x anchor 1 a; }": diags(3, 18, 3, 37, 3, 58, 3, 74, 3, 89, 10, 105),
		"zone x { a.x server *.y; a.x alias a..b; a.x server life life; a.x server life 5; }":                           diags(11, 20, 11, 35, 10, 57, 10, 80),
		`zone x { a.x text " a"; a.x text a; a.x text "a", "a"; a.x text "b", "b" }`:                                    diags(3, 18, 10, 33, 5, 53, 10, 73),
		"zone x { a.x addr 1, 1, 2; a.x addr 3, 3 }":                                                                    diags(5, 22, 10, 41),
	} {
		if z, l := parser.Parse(source); len(z) > 0 || !slices.Equal(l, want) {
			t.Errorf("%s: %v", source, l)
		}
	}
	if _, l := parser.Parse("zone x { b.x addr A; }"); !slices.Equal(l, diags(10, 18)) {
		t.Error(l)
	}
}

// P4.1: the edges of all ranges, and words that look like others.
func TestEdges(t *testing.T) {
	for entry, e := range map[string]api.Errno{
		"addr 1": 0, "addr 1000000": 0, "addr 0": 3, "addr 1000001": 3, "start 0 0": 0, "start 65535 100000": 0, "start 65536 1": 3, "start 1 100001": 3, "anchor 1 1": 0, "anchor 1000000 3": 0, "anchor 0 1": 3, "anchor 1000001 1": 3, "anchor 1 0": 3, "anchor 1 4": 3,
		"key 1 1": 0, "key 1000000 3": 0, "key 0 1": 3, "key 1000001 1": 3, "key 1 0": 3, "key 1 4": 3, "addr life 100000 1": 0, "addr life 100001 1": 3, "addr life 0 1": 0, `text "0123456789012345678901234567890123456789"`: 0, `text "a-b"`: 3, `text "a "`: 3, "server *.x": 11, "alias *": 11, "server .": 0, "key 1 2, 1 1": 0, "alias life": 0, "alias life 5 life": 0, "server life": 0, "server life, b": 0, "server life 5 life, b": 0,
	} {
		z, l := parser.Parse("zone x { a.x " + entry + "; }")
		if e == 0 && (len(l) > 0 || len(z) != 1 || !record.Valid(z[0].Sets[0].Set)) || e != 0 && (len(l) != 1 || l[0].Err != e) {
			t.Error(entry, z, l)
		}
	}
	for source, want := range map[string][]api.Diag{
		"zone x { a.x addr life a 5; }": diags(10, 23), `zone x { a.x text life "a"; }`: diags(10, 23), "zone x { a.x server life": diags(10, 24), "zone x { a.x server life 5": diags(10, 26), "zone x { a.x server": diags(10, 19), "zone x { a.x addr life": diags(10, 22),
		`zone "x" { }`: diags(10, 5), `zone x { "a" addr 1; }`: diags(10, 9), `zone x { a.x "addr" 1; }`: diags(10, 13), `zone x { a.x server "a"; }`: diags(10, 20), `"zone" x { }`: diags(10, 0), "zone x { a.x addr 1 1; }": diags(10, 20), "zone x { a.x addr 1 =2; }": diags(10, 20), "zone x { @ addr @; }": diags(10, 16), "zone x { { addr 1; }": diags(10, 9), "zone @ { }": diags(10, 5), "zone x { a.x @ 1; }": diags(10, 13),
	} {
		if z, l := parser.Parse(source); len(z) > 0 || !slices.Equal(l, want) {
			t.Errorf("%s: %v", source, l)
		}
	}
	z, _ := parser.Parse("zone x { @ key 2 1, 1 2, 1 1, 1 3; }")
	if !slices.Equal(z[0].Sets[0].Set.Data, []api.Datum{{N: 1, M: 1}, {N: 1, M: 2}, {N: 1, M: 3}, {N: 2, M: 1}}) {
		t.Error(z)
	}
}

// P4.7: at most 20 diagnostics, in order.
func TestLimits(t *testing.T) {
	for _, s := range []string{"zone x { " + strings.Repeat("y addr 1; ", 30) + "}", strings.Repeat("zone 5 ", 30), "zone x { " + strings.Repeat("y; ", 20)} {
		_, l := parser.Parse(s)
		if len(l) != 20 || !slices.IsSortedFunc(l, func(a, b api.Diag) int { return a.At - b.At }) {
			t.Errorf("%.20s: %v", s, l)
		}
	}
	_, wrong := parser.Parse("zone x { " + strings.Repeat("y addr 1; ", 30) + "} zone 5")
	for i, x := range wrong {
		if x != (api.Diag{Err: api.ErrCut, At: 9 + 10*i}) {
			t.Error(i, x)
		}
	}
	if _, l := parser.Parse(strings.Repeat(" ", 8001)); !slices.Equal(l, diags(2, 0)) {
		t.Error(l)
	}
}

var entries = []string{"@ start 1 60", "@ server a.ns, b.ns", "b.x addr 7, 3, 9", "c.x alias b.x", `d.x text life 7 "q", "p"`, "*.x addr 5", "e.x anchor 3 1, 2 1"}

// P4.2, P4.4: zones are in order, and the order of entries and data does not matter.
func TestOrder(t *testing.T) {
	d := sample.New(5)
	want, _ := parser.Parse("zone x { " + strings.Join(entries, "; ") + "; }")
	if len(want) != 1 || len(want[0].Sets) != len(entries) {
		t.Fatal(want)
	}
	for i, s := range want[0].Sets {
		in, _ := name.Under(s.Set.Name, "x")
		if !record.Valid(s.Set) || !in || len(s.Sigs) > 0 || s.Set.Type == api.TypeNext {
			t.Error(s)
		}
		if i > 0 {
			if c, _ := record.Compare(want[0].Sets[i-1].Set, s.Set); c != -1 {
				t.Error(s)
			}
		}
	}
	for range 50 {
		l := slices.Clone(entries)
		for i := range l {
			k := d.Roll(len(l))
			l[i], l[k] = l[k], l[i]
		}
		s := strings.ReplaceAll("zone x { "+strings.Join(l, "; ")+"; }", "7, 3, 9", "9, 7, 3")
		if z, e := parser.Parse(s); len(e) > 0 || !reflect.DeepEqual(z, want) {
			t.Errorf("%s: %v %v", s, z, e)
		}
	}
}

// P4.3: gaps change nothing but offsets.
func TestGaps(t *testing.T) {
	for _, s := range []string{"zone x { " + strings.Join(entries, "; ") + "; }", "zone x { y addr 1; b.x addr 0; @ alias a, b; } a"} {
		z, l := parser.Parse(s)
		tokens, _, _ := lexer.Lex(s)
		for _, x := range append(tokens, api.Token{At: len(s)}) {
			gap := " # ;\n"
			z2, l2 := parser.Parse(s[:x.At] + gap + s[x.At:])
			for i := range l2 {
				if l2[i].At > x.At {
					l2[i].At -= len(gap)
				}
			}
			if !reflect.DeepEqual(z, z2) || !slices.Equal(l, l2) {
				t.Errorf("%s with a gap at %d: %v %v", s, x.At, z2, l2)
			}
		}
	}
}

// P4.5: two files, one after the other.
func TestJoining(t *testing.T) {
	files := []string{"zone x { b.x addr 1; }", "zone y { } zone z { @ text \"a\"; }", "zone v { q addr 1; }", "zone w { ; } zone u { }"}
	for i, a := range files {
		za, la := parser.Parse(a)
		for k, b := range files {
			zb, lb := parser.Parse(b)
			z, l := parser.Parse(a + "\n" + b)
			if i == k {
				continue
			}
			if len(la)+len(lb) == 0 && (len(l) > 0 || !reflect.DeepEqual(z, append(slices.Clone(za), zb...))) {
				t.Errorf("%s %s: %v %v", a, b, z, l)
			}
			if len(la) > len(l) || !slices.Equal(l[:len(la)], la) || len(l) != len(la)+len(lb) {
				t.Errorf("%s %s: %v", a, b, l)
			}
		}
	}
}

// P4.6: a wrong entry is reported once, at its place.
func TestWrongEntries(t *testing.T) {
	for bad, at := range map[string]int{"y addr 1": 0, "q.x addr 0": 9, "q.x addr": 8, "q.x addr 1 1": 11, "q.x": 3, "*.x key 1 1": 4, "b.x addr 8": 4, "q.x alias a, b": 13} {
		for i := 3; i <= len(entries); i++ {
			head := "zone x { " + strings.Join(entries[:i], "; ") + "; "
			z, l := parser.Parse(head + bad + ";" + strings.Join(entries[i:], "; ") + ";}")
			if i == len(entries) {
				z, l = parser.Parse(head + bad + ";}")
			}
			if len(z) > 0 || len(l) != 1 || l[0].At != len(head)+at {
				t.Errorf("%s behind %s: %v", bad, head, l)
			}
		}
	}
}

package record_test

import (
	"bytes"
	"reflect"
	"slices"
	"strings"
	"testing"

	"nameplan/api"
	"nameplan/name"
	"nameplan/record"
	"nameplan/sample"
)

func one(s string, typ, life int, d ...api.Datum) api.Set {
	return api.Set{Name: s, Type: typ, Life: life, Data: d}
}

func some() []api.Set {
	d := sample.New(2)
	var l []api.Set
	for i := range 200 {
		s := d.Set(sample.Names()[d.Roll(20)], 1+i%8)
		if record.Valid(s) {
			l = append(l, s)
		}
	}
	return l
}

// P2.1: what is valid, at the edges of each range.
func TestValid(t *testing.T) {
	long := strings.Repeat("a", 40)
	good := []api.Set{
		one("x", 1, 0, api.Datum{N: 1}), one("*", 1, 100000, api.Datum{N: 1000000}),
		one("x", 2, 1, api.Datum{Text: "."}, api.Datum{Text: "a"}), one(".", 3, 1, api.Datum{Text: "b"}),
		one("x", 4, 1, api.Datum{}), one("x", 4, 1, api.Datum{N: 65535, M: 100000}),
		one("*.x", 5, 1, api.Datum{Text: "a b"}, api.Datum{Text: long}),
		one("x", 6, 1, api.Datum{N: 1, M: 1}, api.Datum{N: 1, M: 3}), one("x", 7, 1, api.Datum{N: 1000000, M: 3}),
		one("*.x", 8, 1, api.Datum{Text: "*.y", N: 2}), one("x", 8, 1, api.Datum{Text: ".", N: 510}),
	}
	for i, s := range good {
		if !record.Valid(s) {
			t.Errorf("good %d: %v", i, s)
		}
	}
	nine := one("x", 1, 1)
	for i := range 9 {
		nine.Data = append(nine.Data, api.Datum{N: i + 1})
	}
	bad := []api.Set{
		{}, nine, one("x", 0, 1, api.Datum{N: 1}), one("x", 9, 1, api.Datum{N: 1}), one("x", -1, 1, api.Datum{N: 1}), one("X", 1, 1, api.Datum{N: 1}),
		one("x", 1, -1, api.Datum{N: 1}), one("x", 1, 100001, api.Datum{N: 1}), one("x", 1, 1),
		one("x", 1, 1, api.Datum{}), one("x", 1, 1, api.Datum{N: 1000001}), one("x", 1, 1, api.Datum{N: 1, M: 1}), one("x", 1, 1, api.Datum{N: 1, Text: "a"}),
		one("x", 1, 1, api.Datum{N: 2}, api.Datum{N: 1}), one("x", 1, 1, api.Datum{N: 2}, api.Datum{N: 2}),
		one("*.x", 2, 1, api.Datum{Text: "a"}), one("x", 2, 1, api.Datum{Text: "*.a"}), one("x", 2, 1, api.Datum{Text: ""}), one("x", 2, 1, api.Datum{Text: "a", N: 1}),
		one("x", 3, 1, api.Datum{Text: "a"}, api.Datum{Text: "b"}), one("*.x", 3, 1, api.Datum{Text: "a"}),
		one("x", 4, 1, api.Datum{N: 65536}), one("x", 4, 1, api.Datum{M: 100001}), one("x", 4, 1, api.Datum{N: -1}), one("x", 4, 1, api.Datum{N: 1}, api.Datum{N: 2}), one("*.x", 4, 1, api.Datum{}),
		one("x", 5, 1, api.Datum{}), one("x", 5, 1, api.Datum{Text: " a"}), one("x", 5, 1, api.Datum{Text: "a "}), one("x", 5, 1, api.Datum{Text: "A"}), one("x", 5, 1, api.Datum{Text: long + "a"}), one("x", 5, 1, api.Datum{Text: "a-b"}),
		one("x", 6, 1, api.Datum{N: 1}), one("x", 6, 1, api.Datum{M: 1}), one("x", 7, 1, api.Datum{N: 1, M: 4}), one("x", 7, 1, api.Datum{N: 1000001, M: 1}), one("*", 7, 1, api.Datum{N: 1, M: 1}),
		one("x", 8, 1, api.Datum{Text: "a", N: 3}), one("x", 8, 1, api.Datum{Text: "a"}), one("x", 8, 1, api.Datum{Text: "a", N: 512}), one("x", 8, 1, api.Datum{Text: "a", N: 2, M: 1}), one("x", 8, 1, api.Datum{Text: "", N: 2}),
	}
	for i, s := range bad {
		if record.Valid(s) {
			t.Errorf("bad %d: %v", i, s)
		}
		if b, e := record.Bytes(s); len(b) > 0 || e != api.ErrArg {
			t.Errorf("bytes of bad %d: %v %v", i, b, e)
		}
		if c, e := record.Compare(good[0], s); c != 0 || e != api.ErrArg {
			t.Errorf("compare bad %d: %v %v", i, c, e)
		}
		if l, e := record.Merge([]api.Set{good[0], s}); len(l) > 0 || e != api.ErrArg {
			t.Errorf("merge bad %d: %v %v", i, l, e)
		}
	}
}

// P2.1: the edges of the ranges of anchors, keys, and the number of data.
func TestEdges(t *testing.T) {
	for typ := 6; typ <= 7; typ++ {
		for n, in := range map[int]bool{-1: false, 0: false, 1: true, 2: true, 1000000: true, 1000001: false} {
			for m, too := range map[int]bool{-1: false, 0: false, 1: true, 2: true, 3: true, 4: false} {
				if record.Valid(one("x", typ, 1, api.Datum{N: n, M: m})) != (in && too) {
					t.Error(typ, n, m)
				}
			}
		}
	}
	for n, in := range map[int]bool{0: false, 1: true, 2: true, 999999: true, 1000000: true, 1000001: false} {
		if record.Valid(one("x", 1, 1, api.Datum{N: n})) != in {
			t.Error(n)
		}
	}
	for s, in := range map[string]bool{"a": true, "z": true, "0": true, "9": true, "`": false, "{": false, "/": false, ":": false, " ": false, "a-": false, "a\x1fb": false, "a~b": false} {
		if record.Valid(one("x", 5, 1, api.Datum{Text: s})) != in {
			t.Errorf("%q", s)
		}
	}
	eight := one("x", 1, 1)
	for i := range 8 {
		eight.Data = append(eight.Data, api.Datum{N: i + 1})
	}
	if m, e := record.Merge([]api.Set{eight, eight}); !record.Valid(eight) || e != api.OK || !reflect.DeepEqual(m, []api.Set{eight}) {
		t.Error(m, e)
	}
	alias := one("x", 3, 1, api.Datum{Text: "a"})
	if m, e := record.Merge([]api.Set{alias, alias}); e != api.OK || !reflect.DeepEqual(m, []api.Set{alias}) {
		t.Error(m, e)
	}
	if c, e := record.Compare(one("X", 1, 1), eight); c != 0 || e != api.ErrArg {
		t.Error(c, e)
	}
}

// P2.2, P2.7: bytes are read as the set; neither parts nor more are.
func TestBytes(t *testing.T) {
	b, _ := record.Bytes(one("x", 1, 5, api.Datum{N: 7}))
	if len(b) != 36 || b[0] != 1 || b[1] != 120 || b[9] != 1 || b[17] != 5 || b[18] != 1 || b[19] != 0 || b[27] != 7 {
		t.Errorf("%d %v", len(b), b)
	}
	for _, s := range some() {
		b, e := record.Bytes(s)
		if e != api.OK {
			t.Fatal(s, e)
		}
		if x, e := record.Read(b); e != api.OK || !reflect.DeepEqual(x, s) {
			t.Errorf("%v: %v %v", s, x, e)
		}
		for i := range b {
			if x, e := record.Read(b[:i]); e != api.ErrSyntax || x.Name != "" || len(x.Data) > 0 {
				t.Errorf("%v cut at %d: %v %v", s, i, x, e)
			}
			c := bytes.Clone(b)
			c[i] ^= 1 << (i % 8)
			if x, e := record.Read(c); e == api.OK {
				if again, _ := record.Bytes(x); !bytes.Equal(again, c) {
					t.Errorf("%v is read, but written as %v", c, again)
				}
			}
		}
		if _, e := record.Read(append(b, 0)); e != api.ErrSyntax {
			t.Errorf("%v with a further byte: %v", s, e)
		}
	}
	big := append([]byte{1, 120}, bytes.Repeat([]byte{255}, 40)...)
	if _, e := record.Read(big); e != api.ErrSyntax {
		t.Error(e)
	}
}

// P2.3: an order of names and types.
func TestCompare(t *testing.T) {
	l := some()
	for _, a := range l {
		for _, b := range l {
			want, _ := name.Compare(a.Name, b.Name)
			if want == 0 {
				want = max(-1, min(1, a.Type-b.Type))
			}
			c, e := record.Compare(a, b)
			d, _ := record.Compare(b, a)
			if c != want || d != -c || e != api.OK {
				t.Errorf("%v %v: %d %d %v", a, b, c, d, e)
			}
		}
	}
}

// P2.4, P2.5: merged sets have all data, once, are valid and in order.
func TestMerge(t *testing.T) {
	all := some()
	for i := 0; i+6 < len(all); i++ {
		l := all[i : i+6]
		m, e := record.Merge(l)
		if e != api.OK {
			continue
		}
		back := slices.Clone(l)
		slices.Reverse(back)
		if m2, _ := record.Merge(append(back, m...)); !reflect.DeepEqual(m, m2) {
			t.Errorf("%v: again %v", m, m2)
		}
		for k, s := range m {
			if !record.Valid(s) {
				t.Errorf("%v is not valid", s)
			}
			if k > 0 {
				if c, _ := record.Compare(m[k-1], s); c != -1 {
					t.Errorf("%v before %v", m[k-1], s)
				}
			}
			var data []api.Datum
			life := 1 << 40
			for _, x := range l {
				if x.Name == s.Name && x.Type == s.Type {
					data = append(data, x.Data...)
					life = min(life, x.Life)
				}
			}
			for _, d := range data {
				if !slices.Contains(s.Data, d) {
					t.Errorf("%v lacks %v", s, d)
				}
			}
			for _, d := range s.Data {
				if !slices.Contains(data, d) {
					t.Errorf("%v has %v", s, d)
				}
			}
			if life != s.Life {
				t.Errorf("%v: the life is %d", s, life)
			}
		}
	}
	var many []api.Set
	for i := range 9 {
		many = append(many, one("x", 1, 5, api.Datum{N: i + 1}))
	}
	if m, e := record.Merge(many); e != api.ErrLimit || len(m) > 0 {
		t.Error(m, e)
	}
	if m, e := record.Merge(append(many, one("a", 3, 1, api.Datum{Text: "b"}), one("a", 3, 1, api.Datum{Text: "c"}))); e != api.ErrClash || len(m) > 0 {
		t.Error(m, e)
	}
	if m, e := record.Merge(append(many, one("z", 4, 1, api.Datum{N: 1}), one("z", 4, 1, api.Datum{N: 2}))); e != api.ErrLimit || len(m) > 0 {
		t.Error(m, e)
	}
	if m, e := record.Merge([]api.Set{one("x", 1, 5, api.Datum{N: 7}), one("x", 1, 4, api.Datum{N: 3})}); e != api.OK || !reflect.DeepEqual(m, []api.Set{one("x", 1, 4, api.Datum{N: 3}, api.Datum{N: 7})}) {
		t.Error(m, e)
	}
}

// P2.6: exchanged or doubled data, and fields of other types, are not valid.
func TestDamage(t *testing.T) {
	for _, s := range some() {
		n := len(s.Data)
		x := s
		x.Data = append(slices.Clone(s.Data), s.Data[n-1])
		if record.Valid(x) {
			t.Errorf("%v has a datum twice", x)
		}
		if n > 1 {
			x.Data = slices.Clone(s.Data)
			x.Data[0], x.Data[1] = x.Data[1], x.Data[0]
			if record.Valid(x) {
				t.Errorf("%v has exchanged data", x)
			}
		}
		x.Data = slices.Clone(s.Data)
		switch s.Type {
		case api.TypeAddr, api.TypeServer, api.TypeAlias, api.TypeText, api.TypeNext:
			x.Data[0].M = 1
		default:
			x.Data[0].Text = "a"
		}
		if record.Valid(x) {
			t.Errorf("%v has a field of another type", x)
		}
	}
}

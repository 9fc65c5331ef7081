// Package sample makes names, sets and zones for the tests, always the same ones.
package sample

import "nameplan/api"

// Dice yields numbers that look arbitrary, but depend on its beginning alone.
type Dice struct{ state uint64 }

// New returns dice with a beginning.
func New(seed int) *Dice { return &Dice{uint64(seed)*2862933555777941757 + 3037000493} }

// Roll returns a number from 0 to before n.
func (d *Dice) Roll(n int) int {
	d.state = d.state*6364136223846793005 + 1442695040888963407
	return int(d.state>>33) % n
}

// Names returns names of several depths, in canonical order.
func Names() []string {
	return []string{".", "*", "0", "a", "*.a", "a.a", "b.a.a", "*.b.a.a", "b.a", "z.a", "a-b", "a.a-b", "ab", "b", "*.b", "a.b", "a.a.b", "a.a.a.a.a.a.a.b", "c.b", "b-c", "bc", "z"}
}

// NotNames returns texts that are no names.
func NotNames() []string {
	return []string{"", "..", ".a", "a.", "a..b", "-a", "a-", "A", "a_b", "a b", "**", "*a", "a*", "a.*", "a.*.b", "abcdefghijklm", "a.b.c.d.e.f.g.h.i", "abcdefghijkl.abcdefghijkl.abcdefghijkl.abcdefghijkl.abcdefghijkl", "\x00", "é"}
}

// Set makes a valid set with a name.
func (d *Dice) Set(name string, typ int) api.Set {
	s := api.Set{Name: name, Type: typ, Life: d.Roll(4) * 100}
	hosts := []string{".", "a", "a.ns", "b.ns", "h.x", "x"}
	texts := []string{"a", "a b", "b", "z0"}
	switch typ {
	case api.TypeAddr:
		s.Data = []api.Datum{{N: 1 + d.Roll(9)}, {N: 20 + d.Roll(9)}}[:1+d.Roll(2)]
	case api.TypeServer:
		i := d.Roll(5)
		s.Data = []api.Datum{{Text: hosts[i]}, {Text: hosts[5]}}[:1+d.Roll(2)]
	case api.TypeAlias:
		s.Data = []api.Datum{{Text: hosts[d.Roll(6)]}}
	case api.TypeStart:
		s.Data = []api.Datum{{N: d.Roll(65536), M: d.Roll(100)}}
	case api.TypeText:
		i := d.Roll(3)
		s.Data = []api.Datum{{Text: texts[i]}, {Text: texts[3]}}[:1+d.Roll(2)]
	case api.TypeAnchor, api.TypeKey:
		s.Data = []api.Datum{{N: 1 + d.Roll(5), M: 1 + d.Roll(3)}, {N: 9, M: 1}}[:1+d.Roll(2)]
	case api.TypeNext:
		s.Data = []api.Datum{{Text: hosts[d.Roll(6)], N: 2 * (1 + d.Roll(255))}}
	}
	return s
}

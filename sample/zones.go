package sample

import (
	"nameplan/api"
	"nameplan/zone"
)

// Signed makes a set without signatures.
func Signed(name string, typ, life int, d ...api.Datum) api.Signed {
	return api.Signed{Set: api.Set{Name: name, Type: typ, Life: life, Data: d}}
}

// Text makes a datum with a text.
func Text(s string) api.Datum { return api.Datum{Text: s} }

// Nums makes a datum with one or two numbers.
func Nums(n int, m ...int) api.Datum {
	d := api.Datum{N: n}
	if len(m) > 0 {
		d.M = m[0]
	}
	return d
}

// Bare makes a zone that has nothing but servers and a start.
func Bare(apex string, serial int, hosts ...string) api.Zone {
	s := Signed(apex, api.TypeServer, 10)
	for _, h := range hosts {
		s.Set.Data = append(s.Set.Data, Text(h))
	}
	return api.Zone{Apex: apex, Sets: []api.Signed{s, Signed(apex, api.TypeStart, 10, Nums(serial, 5))}}
}

// With returns a zone with further sets; what cannot be put is left out.
func With(z api.Zone, l ...api.Signed) api.Zone {
	for _, s := range l {
		if out, e := zone.Put(z, s); e == api.OK {
			z = out
		}
	}
	return z
}

// Below returns the name with labels in front of an apex.
func Below(front, apex string) string {
	switch {
	case front == "":
		return apex
	case apex == ".":
		return front
	}
	return front + "." + apex
}

// Zone makes a valid zone with an apex, some of whose sets are of any type.
func (d *Dice) Zone(apex string, types ...int) api.Zone {
	z := Bare(apex, d.Roll(50), "a.ns", "h.x")
	fronts := []string{"", "a", "b", "a.b", "c.b", "*", "*.b", "b.c", "a.b.c", "d"}
	for range 3 + d.Roll(20) {
		typ := 1 + d.Roll(7)
		if len(types) > 0 {
			typ = types[d.Roll(len(types))]
		}
		z = With(z, api.Signed{Set: d.Set(Below(fronts[d.Roll(len(fronts))], apex), typ)})
	}
	return z
}

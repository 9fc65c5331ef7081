package sign_test

import (
	"reflect"
	"testing"

	"nameplan/api"
	"nameplan/record"
	"nameplan/sample"
	"nameplan/sign"
	"nameplan/value"
	"nameplan/zone"
)

func some() []api.Set {
	d := sample.New(11)
	var l []api.Set
	for i := range 80 {
		s := d.Set(sample.Names()[d.Roll(20)], 1+i%8)
		if record.Valid(s) {
			l = append(l, s)
		}
	}
	return l
}

// P8.1, P8.7: digests.
func TestDigest(t *testing.T) {
	if n := sign.Digest(nil); n != 14695981039346656037 {
		t.Error(n)
	}
	if n := sign.Digest([]byte{0}); n != 12638153115695167455 {
		t.Error(n)
	}
	b := []byte("some bytes of a set")
	want := sign.Digest(b)
	for i := range b {
		for x := 1; x < 256; x++ {
			b[i] ^= byte(x)
			if sign.Digest(b) == want {
				t.Error(i, x)
			}
			b[i] ^= byte(x)
		}
	}
}

// P8.1: the sum is the digest of the bytes that the document names; what is not valid is refused.
func TestSign(t *testing.T) {
	s := api.Set{Name: "w.x", Type: 1, Life: 5, Data: []api.Datum{{N: 7}}}
	g, e := sign.Sign(s, "x", api.Key{N: 300, Alg: 2}, 1, 20000000)
	b, _ := record.Bytes(s)
	b = append(b, 1, 'x', 0, 0, 0, 0, 0, 0, 1, 44, 0, 0, 0, 0, 0, 0, 0, 2, 0, 0, 0, 0, 0, 0, 0, 1, 0, 0, 0, 0, 0x01, 0x31, 0x2d, 0x00)
	if e != api.OK || g != (api.Sig{Zone: "x", Key: 300, Alg: 2, From: 1, Until: 20000000, Sum: sign.Digest(b)}) {
		t.Error(g, e)
	}
	for _, k := range []api.Key{{N: 1, Alg: 1}, {N: 1000000, Alg: 3}} {
		if g, e := sign.Sign(s, "x", k, 0, 0); e != api.OK || g.Key != k.N || g.Alg != k.Alg {
			t.Error(k, e)
		}
	}
	k := api.Key{N: 1, Alg: 1}
	for i, f := range []func() (api.Sig, api.Errno){
		func() (api.Sig, api.Errno) { return sign.Sign(api.Set{}, "x", k, 0, 1) },
		func() (api.Sig, api.Errno) { return sign.Sign(s, "y", k, 0, 1) },
		func() (api.Sig, api.Errno) { return sign.Sign(api.Set{Name: "w.x", Type: 1}, "x", k, 0, 1) },
		func() (api.Sig, api.Errno) { return sign.Sign(s, "", k, 0, 1) },
		func() (api.Sig, api.Errno) {
			return sign.Sign(api.Set{Name: "*.x", Type: 1, Data: []api.Datum{{N: 7}}}, "*.x", k, 0, 1)
		},
		func() (api.Sig, api.Errno) { return sign.Sign(s, "x", api.Key{N: 0, Alg: 1}, 0, 1) },
		func() (api.Sig, api.Errno) { return sign.Sign(s, "x", api.Key{N: 1000001, Alg: 1}, 0, 1) },
		func() (api.Sig, api.Errno) { return sign.Sign(s, "x", api.Key{N: 1, Alg: 4}, 0, 1) },
		func() (api.Sig, api.Errno) { return sign.Sign(s, "x", api.Key{N: 1}, 0, 1) },
		func() (api.Sig, api.Errno) { return sign.Sign(s, "x", k, -1, 1) },
		func() (api.Sig, api.Errno) { return sign.Sign(s, "x", k, 2, 1) },
		func() (api.Sig, api.Errno) { return sign.Sign(s, "x", k, 2, 20000001) },
	} {
		if g, e := f(); g != (api.Sig{}) || e != api.ErrArg {
			t.Errorf("%d: %v %v", i, g, e)
		}
	}
}

// P8.2, P8.3, P8.4: what is accepted, and what is not.
func TestCheck(t *testing.T) {
	for i, s := range some() {
		zone := "."
		k := api.Key{N: 1 + i, Alg: 1 + i%3}
		g, e := sign.Sign(s, zone, k, i, 2*i)
		if e != api.OK || !sign.Check(s, g, k) {
			t.Errorf("%v %v", s, e)
		}
		for bit := range 64 {
			x := g
			x.Sum ^= 1 << bit
			if sign.Check(s, x, k) {
				t.Errorf("%v: bit %d", s, bit)
			}
		}
		other := k
		other.N++
		alg := k
		alg.Alg = 1 + k.Alg%3
		if sign.Check(s, g, other) || sign.Check(s, g, alg) {
			t.Errorf("%v: another key", s)
		}
		for _, change := range []func(x *api.Sig){func(x *api.Sig) { x.Zone = s.Name + "a" }, func(x *api.Sig) { x.Key++ }, func(x *api.Sig) { x.Alg = 1 + x.Alg%3 }, func(x *api.Sig) { x.Until++ }, func(x *api.Sig) { x.From-- }} {
			x := g
			change(&x)
			if sign.Check(s, x, k) || sign.Check(s, x, api.Key{N: x.Key, Alg: x.Alg}) {
				t.Errorf("%v: %v", s, x)
			}
		}
		r := s
		r.Life++
		if sign.Check(r, g, k) {
			t.Errorf("%v: another set", s)
		}
	}
}

// P8.5, P8.6: signed zones.
func TestAll(t *testing.T) {
	d := sample.New(12)
	keys := []api.Key{{N: 9, Alg: 3}, {N: 2, Alg: 1}, {N: 5, Alg: 2}}
	for range 60 {
		z := d.Zone("x")
		s, e := sign.All(z, keys, 3, 9)
		if e != api.OK || !zone.Valid(s) || len(s.Sets) != len(z.Sets) {
			t.Fatal(e)
		}
		for i, x := range s.Sets {
			cut, behind, _ := zone.Cut(z, x.Set.Name)
			own := !behind || x.Set.Type != 1 && (x.Set.Type != 2 || x.Set.Name != cut)
			if !value.SameSet(x.Set, z.Sets[i].Set) || len(x.Sigs) != map[bool]int{true: 3}[own] {
				t.Errorf("%v: %v", x, own)
			}
			for k, g := range x.Sigs {
				if want := []int{1, 2, 0}[k]; !sign.Check(x.Set, g, keys[want]) {
					t.Errorf("%v: %d", x, k)
				}
			}
		}
		one, _ := sign.All(z, keys[:1], 0, 1)
		if again, e := sign.All(one, keys, 3, 9); e != api.OK || !reflect.DeepEqual(again, s) {
			t.Error("signed again", e)
		}
	}
	z := sample.Bare("x", 1, "a")
	seven := []api.Key{{N: 1, Alg: 1}, {N: 2, Alg: 1}, {N: 3, Alg: 1}, {N: 4, Alg: 1}, {N: 5, Alg: 1}, {N: 6, Alg: 1}, {N: 7, Alg: 1}}
	for i, f := range []func() (api.Zone, api.Errno){
		func() (api.Zone, api.Errno) { return sign.All(api.Zone{}, keys, 0, 1) },
		func() (api.Zone, api.Errno) { return sign.All(z, nil, 0, 1) },
		func() (api.Zone, api.Errno) { return sign.All(z, seven, 0, 1) },
		func() (api.Zone, api.Errno) { return sign.All(z, keys, 1, 0) },
		func() (api.Zone, api.Errno) { return sign.All(z, []api.Key{{N: 1, Alg: 1}, {N: 1, Alg: 1}, {}}, 0, 1) },
	} {
		if g, e := f(); g.Apex != "" || e != api.ErrArg {
			t.Errorf("%d: %v %v", i, g, e)
		}
	}
	if g, e := sign.All(z, []api.Key{{N: 1, Alg: 1}, {N: 2, Alg: 1}, {N: 1, Alg: 2}}, 0, 1); g.Apex != "" || e != api.ErrTwice {
		t.Error(g, e)
	}
	if g, e := sign.All(z, seven[:6], 0, 1); e != api.OK || len(g.Sets[0].Sigs) != 6 {
		t.Error(g, e)
	}
}

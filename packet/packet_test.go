package packet_test

import (
	"bytes"
	"reflect"
	"slices"
	"testing"

	"nameplan/api"
	"nameplan/packet"
	"nameplan/sample"
	"nameplan/sign"
)

func query(id int) api.Message {
	return api.Message{Kind: 1, ID: id, From: 2, To: 3, Q: api.Question{Name: "x", Type: 1}}
}

func answer(d *sample.Dice) api.Message {
	m := api.Message{Kind: 2, ID: d.Roll(65536), From: 1 + d.Roll(9), To: 1 + d.Roll(9), Q: api.Question{Name: sample.Names()[d.Roll(22)], Type: 1 + d.Roll(8)}}
	m.Answer.Kind = 1 + d.Roll(7)
	if m.Answer.Kind == 4 {
		m.Answer.Cut = "x"
	}
	z := sample.Sealed(d.Zone("x"), d.Roll(5), 9, 1, 2)
	for range d.Roll(4) {
		m.Answer.Sets = append(m.Answer.Sets, z.Sets[d.Roll(len(z.Sets))])
	}
	return m
}

func closed(b []byte) []byte {
	n := sign.Digest(b)
	b = slices.Clone(b)
	for shift := 56; shift >= 0; shift -= 8 {
		b = append(b, byte(n>>shift))
	}
	return b
}

// P26.1: the example of the document, and the bytes of an answer.
func TestExample(t *testing.T) {
	b, e := packet.Bytes(query(5))
	if e != api.OK || len(b) != 60 || b[7] != 1 || b[15] != 5 || b[23] != 2 || b[31] != 3 || b[32] != 1 || b[33] != 120 || b[41] != 1 {
		t.Error(b, e)
	}
	long := func(n byte) []byte { return []byte{0, 0, 0, 0, 0, 0, 0, n} }
	m := api.Message{Kind: 2, ID: 6, From: 7, To: 8, Q: api.Question{Name: "y", Type: 5}, Answer: api.Answer{Kind: 4, Cut: "y", Sets: []api.Signed{{Set: api.Set{Name: "y", Type: 2, Life: 9, Data: []api.Datum{{Text: "h"}}}, Sigs: []api.Sig{{Zone: ".", Key: 1, Alg: 2, From: 3, Until: 4, Sum: 5}}}}}}
	set := slices.Concat([]byte{1, 'y'}, long(2), long(9), []byte{1, 1, 'h'}, long(0), long(0))
	want := slices.Concat(long(2), long(6), long(7), long(8), []byte{1, 'y'}, long(5), long(4), []byte{1, 'y', 1}, long(byte(len(set))), set, []byte{1, 1, '.'}, long(1), long(2), long(3), long(4), long(5))
	if b, e := packet.Bytes(m); e != api.OK || !bytes.Equal(b, closed(want)) {
		t.Error(b, e)
	}
}

// P26.1: what is not valid.
func TestValid(t *testing.T) {
	d := sample.New(33)
	for i, change := range []func(m *api.Message){
		func(m *api.Message) { m.Kind = 0 }, func(m *api.Message) { m.Kind = 3 }, func(m *api.Message) { m.ID = -1 }, func(m *api.Message) { m.ID = 65536 }, func(m *api.Message) { m.From = 0 }, func(m *api.Message) { m.To = 1000001 }, func(m *api.Message) { m.Q.Type = 9 }, func(m *api.Message) { m.Q.Name = "" },
		func(m *api.Message) { m.Kind = 1 }, func(m *api.Message) { m.Answer.Kind = 0 }, func(m *api.Message) { m.Answer.Kind = 8 }, func(m *api.Message) { m.Answer.Kind, m.Answer.Cut = 4, "" }, func(m *api.Message) { m.Answer.Kind, m.Answer.Cut = 1, "x" }, func(m *api.Message) { m.Answer.Sets = make([]api.Signed, 1) },
		func(m *api.Message) { m.Answer.Sets = slices.Repeat(m.Answer.Sets, 41) }, func(m *api.Message) { m.Answer.Sets[0].Sigs = make([]api.Sig, 1) }, func(m *api.Message) { m.Answer.Sets[0].Sigs = slices.Repeat(m.Answer.Sets[0].Sigs, 7) },
		func(m *api.Message) { m.Answer.Sets[0].Sigs[0].Zone = "" }, func(m *api.Message) { m.Answer.Sets[0].Sigs[0].Key = 0 }, func(m *api.Message) { m.Answer.Sets[0].Sigs[0].Alg = 4 }, func(m *api.Message) { m.Answer.Sets[0].Sigs[0].Until = 20000001 }, func(m *api.Message) { m.Answer.Sets[0].Sigs[0].From = 10 }, func(m *api.Message) { m.Answer.Sets[0].Sigs[0].From = -1 },
	} {
		m := answer(d)
		m.Answer.Kind, m.Answer.Cut = 1, ""
		m.Answer.Sets = []api.Signed{{Set: d.Set("x", 1), Sigs: []api.Sig{{Zone: "x", Key: 1, Alg: 1, Until: 5}}}}
		if !packet.Valid(m) {
			t.Fatal(m)
		}
		change(&m)
		b, e := packet.Bytes(m)
		if packet.Valid(m) || e != api.ErrArg || len(b) > 0 || packet.Match(query(5), m) {
			t.Error(i, e)
		}
	}
}

// P26.2, P26.3, P26.4: bytes.
func TestBytes(t *testing.T) {
	d := sample.New(34)
	for range 60 {
		m := answer(d)
		b, e := packet.Bytes(m)
		if e != api.OK {
			t.Fatal(e)
		}
		if x, e := packet.Read(b); e != api.OK || !reflect.DeepEqual(x, m) {
			t.Error(x, m, e)
		}
		for i := range b {
			c := slices.Clone(b)
			c[i] ^= byte(1 + d.Roll(255))
			if x, e := packet.Read(c); e != api.ErrSum || x.Kind != 0 {
				t.Error(i, e)
			}
			if i < len(b)-8 {
				if x, e := packet.Read(closed(b[:i])); e != api.ErrSyntax || x.Kind != 0 {
					t.Error(i, e)
				}
				if x, e := packet.Read(closed(c[:len(b)-8])); e == api.OK {
					if again, _ := packet.Bytes(x); !bytes.Equal(again, closed(c[:len(b)-8])) {
						t.Error("read, but written otherwise")
					}
				}
			}
		}
		if _, e := packet.Read(closed(append(slices.Clone(b[:len(b)-8]), 0))); e != api.ErrSyntax {
			t.Error(e)
		}
	}
	if _, e := packet.Read(make([]byte, 7)); e != api.ErrSum {
		t.Error(e)
	}
}

// P26.5, P26.6: matching.
func TestMatch(t *testing.T) {
	q := query(5)
	a := api.Message{Kind: 2, ID: 5, From: 3, To: 2, Q: q.Q, Answer: api.Answer{Kind: 7}}
	if !packet.Match(q, a) || packet.Match(a, q) || packet.Match(q, q) || packet.Match(a, a) {
		t.Error("match")
	}
	for i, change := range []func(m *api.Message){func(m *api.Message) { m.ID++ }, func(m *api.Message) { m.From++ }, func(m *api.Message) { m.To++ }, func(m *api.Message) { m.Q.Name = "y" }, func(m *api.Message) { m.Q.Type++ }} {
		b, c := a, q
		change(&b)
		change(&c)
		if packet.Match(q, b) || packet.Match(c, a) {
			t.Error(i)
		}
	}
}

// P26.7: too long messages.
func TestLimits(t *testing.T) {
	m := api.Message{Kind: 2, ID: 5, From: 3, To: 2, Q: query(5).Q, Answer: api.Answer{Kind: 1}}
	for len(m.Answer.Sets) < 40 {
		m.Answer.Sets = append(m.Answer.Sets, sample.Signed("abcdefghijkl.abcdefghijkl.abcdefghijkl", 1, 5, sample.Nums(1), sample.Nums(2)))
		b, e := packet.Bytes(m)
		size := 60 + len(m.Answer.Sets)*(8+39+8+8+1+34+1)
		if (size <= 4000) != (e == api.OK) || e == api.OK && len(b) != size || e != api.OK && (e != api.ErrLimit || len(b) > 0) {
			t.Error(size, len(b), e)
		}
	}
	if _, e := packet.Read(closed(make([]byte, 3993))); e != api.ErrLimit {
		t.Error(e)
	}
	if _, e := packet.Read(closed(make([]byte, 3992))); e != api.ErrSyntax {
		t.Error(e)
	}
}

// P26.1: the edges of each field.
func TestEdges(t *testing.T) {
	good := api.Message{Kind: 2, ID: 5, From: 3, To: 2, Q: api.Question{Name: "x", Type: 1}}
	good.Answer = api.Answer{Kind: 1, Sets: []api.Signed{{Set: api.Set{Name: "x", Type: 1, Data: []api.Datum{{N: 1}}}, Sigs: []api.Sig{{Zone: "x", Key: 1, Alg: 1}}}}}
	for i, c := range []struct {
		set      func(m *api.Message, n int)
		low, top int
	}{
		{func(m *api.Message, n int) { m.ID = n }, 0, 65535}, {func(m *api.Message, n int) { m.From = n }, 1, 1000000}, {func(m *api.Message, n int) { m.To = n }, 1, 1000000}, {func(m *api.Message, n int) { m.Q.Type = n }, 1, 8},
		{func(m *api.Message, n int) { m.Answer.Sets[0].Sigs[0].Key = n }, 1, 1000000}, {func(m *api.Message, n int) { m.Answer.Sets[0].Sigs[0].Alg = n }, 1, 3}, {func(m *api.Message, n int) { m.Answer.Sets[0].Sigs[0].Until = n }, 0, 20000000}, {func(m *api.Message, n int) { m.Answer.Sets[0].Sigs[0].From = n; m.Answer.Sets[0].Sigs[0].Until = 9 }, 0, 9},
	} {
		for n, want := range map[int]bool{c.low - 1: false, c.low: true, c.low + 1: true, c.top - 1: true, c.top: true, c.top + 1: false} {
			m := good
			m.Answer.Sets = []api.Signed{{Set: good.Answer.Sets[0].Set, Sigs: slices.Clone(good.Answer.Sets[0].Sigs)}}
			c.set(&m, n)
			_, e := packet.Bytes(m)
			if packet.Valid(m) != want || (e == api.OK) != want {
				t.Error(i, n, e)
			}
		}
	}
	six := good
	six.Answer.Sets = []api.Signed{{Set: good.Answer.Sets[0].Set, Sigs: slices.Repeat(good.Answer.Sets[0].Sigs, 6)}}
	long := good
	long.Answer.Sets = slices.Repeat(good.Answer.Sets, 40)
	if !packet.Valid(six) || !packet.Valid(long) {
		t.Error("6 signatures, or 40 sets")
	}
	for kind := 1; kind <= 7; kind++ {
		m := good
		m.Answer.Kind = kind
		if packet.Valid(m) != (kind != 4) {
			t.Error(kind)
		}
		m.Answer.Cut = "y"
		if packet.Valid(m) != (kind == 4) {
			t.Error(kind)
		}
	}
	q := query(5)
	for i, change := range []func(m *api.Message){func(m *api.Message) { m.Answer.Kind = 1 }, func(m *api.Message) { m.Answer.Sets = good.Answer.Sets }, func(m *api.Message) { m.Answer.Cut = "x" }} {
		m := q
		change(&m)
		if packet.Valid(m) {
			t.Error(i)
		}
	}
	for i, c := range [][2]api.Message{{{}, good}, {q, {}}, {good, good}, {q, q}} {
		if packet.Match(c[0], c[1]) {
			t.Error(i)
		}
	}
	a := api.Message{Kind: 2, ID: 5, From: 3, To: 2, Q: q.Q, Answer: api.Answer{Kind: 7}}
	twin := a
	twin.From, twin.To = a.To, a.From
	back := q
	back.From, back.To = q.To, q.From
	wrong := q
	wrong.Answer.Kind = 9
	if packet.Match(twin, a) || packet.Match(q, back) || packet.Match(wrong, a) || !packet.Match(q, a) {
		t.Error("kinds")
	}
	bad := a
	bad.Answer.Cut = "x"
	if packet.Match(q, bad) {
		t.Error("an answer that is not valid")
	}
}

// P26.7: just 4000 bytes.
func TestSize(t *testing.T) {
	m := api.Message{Kind: 2, ID: 5, From: 3, To: 2, Q: query(5).Q, Answer: api.Answer{Kind: 1}}
	text := func(n int) api.Signed {
		s := sample.Signed("x", 5, 1)
		for i := range 8 {
			s.Set.Data = append(s.Set.Data, sample.Text(string([]byte{'a' + byte(i)})+string(bytes.Repeat([]byte{'t'}, n))))
		}
		return s
	}
	size := func() int { b, _ := packet.Bytes(m); return len(b) }
	for size() > 0 && size() < 3400 {
		m.Answer.Sets = append(m.Answer.Sets, text(20))
	}
	left := 4000 - size()
	last := sample.Signed("y", 5, 1)
	for i := range 7 {
		last.Set.Data = append(last.Set.Data, sample.Text(string([]byte{'a' + byte(i)})+string(bytes.Repeat([]byte{'t'}, 9))))
	}
	m.Answer.Sets = append(m.Answer.Sets, last)
	used := 4000 - left
	for i := range 7 {
		for len(last.Set.Data[i].Text) < 40 && size() > 0 && size() < 4000 {
			last.Set.Data[i].Text += "t"
		}
	}
	b, e := packet.Bytes(m)
	if e != api.OK || len(b) != 4000 {
		t.Fatal(used, len(b), e)
	}
	if x, e := packet.Read(b); e != api.OK || !reflect.DeepEqual(x, m) {
		t.Error(e)
	}
	m.Q.Name = "xx"
	if b, e := packet.Bytes(m); e != api.ErrLimit || len(b) > 0 {
		t.Error(len(b), e)
	}
}

package transcript_test

import (
	"bytes"
	"reflect"
	"slices"
	"strings"
	"testing"

	"nameplan/api"
	"nameplan/cache"
	"nameplan/course"
	"nameplan/history"
	"nameplan/sample"
	"nameplan/sign"
	"nameplan/transcript"
	"nameplan/value"
	"nameplan/world"
)

func q(n string, typ int) api.Question { return api.Question{Name: n, Type: typ} }

// resolve lets a resolver run over the tree, and returns its transcript and its cache.
func resolve(t *testing.T, c api.Cache, x api.Question, pick int) (api.Transcript, api.Cache) {
	h := sample.Tree()
	w, _ := history.At(h, 50)
	r := course.New(course.Setting{Anchor: h.Anchor, Hints: h.Hints, Drift: h.Drift}, x, 50, c)
	out := api.Transcript{Q: x, At: 50, Cache: c}
	for {
		ask, v, done := r.Step()
		if done {
			out.Result = v
			return out, r.Cache()
		}
		addr := ask.Left[pick%len(ask.Left)]
		a, e := world.Ask(w, addr, ask.Q)
		if e != api.OK {
			t.Fatal(e)
		}
		out.Heard = append(out.Heard, api.Heard{At: 50, Addr: addr, Q: ask.Q, Answer: a})
		r.Hear(ask, addr, a)
	}
}

func replay(x api.Transcript) (api.Verdict, api.Errno) {
	h := sample.Tree()
	return transcript.Replay(x, h.Anchor, h.Hints, h.Drift)
}

func check(t *testing.T, x api.Transcript, want bool) {
	t.Helper()
	h := sample.Tree()
	if ok, e := transcript.Check(x, h.Anchor, h.Hints, h.Drift); ok != want || e != api.OK {
		t.Error(ok, e)
	}
}

var asked = []api.Question{q("w.x", 1), q("l.x", 5), q("q.x", 5), q("t.y.x", 5), q("q", 1), q("w.x", 5), q("y.x", 6), q("x", 7), q(".", 7), q("t.y.x", 1), q("a.ns", 1)}

// P31.1: the example of the document.
func TestExample(t *testing.T) {
	x := api.Transcript{Q: q("t.x", 5), At: 5, Result: api.Verdict{Kind: 2}}
	anchor := sample.Tree().Anchor
	if v, e := transcript.Replay(x, anchor, []int{1}, 0); e != api.ErrLost || v.Kind != 0 {
		t.Error(v, e)
	}
	if ok, e := transcript.Check(x, anchor, []int{1}, 0); ok || e != api.OK {
		t.Error(ok, e)
	}
	x.Heard = []api.Heard{{At: 5, Addr: 1, Q: x.Q}}
	if v, e := transcript.Replay(x, anchor, []int{1}, 0); e != api.OK || v.Kind != api.Missing || v.Q != x.Q {
		t.Error(v, e)
	}
	for i, f := range []func() (api.Verdict, api.Errno){
		func() (api.Verdict, api.Errno) { return transcript.Replay(x, api.Set{}, []int{1}, 0) },
		func() (api.Verdict, api.Errno) { return transcript.Replay(x, anchor, nil, 0) },
		func() (api.Verdict, api.Errno) { return transcript.Replay(x, anchor, []int{0}, 0) },
		func() (api.Verdict, api.Errno) { return transcript.Replay(x, anchor, []int{1}, 1001) },
		func() (api.Verdict, api.Errno) { return transcript.Replay(api.Transcript{}, anchor, []int{1}, 0) },
	} {
		if v, e := f(); e != api.ErrArg || v.Kind != 0 {
			t.Error(i, e)
		}
	}
	if ok, e := transcript.Check(x, anchor, nil, 0); ok || e != api.ErrArg {
		t.Error(ok, e)
	}
}

// P31.2: bytes.
func TestBytes(t *testing.T) {
	d := sample.New(38)
	_, c := resolve(t, api.Cache{}, q("w.x", 5), 0)
	for _, x := range asked {
		for _, from := range []api.Cache{{}, c} {
			y, _ := resolve(t, from, x, 1)
			b, e := transcript.Bytes(y)
			if e != api.OK {
				t.Fatal(e)
			}
			z, e := transcript.Read(b)
			again, _ := transcript.Bytes(z)
			if e != api.OK || !bytes.Equal(again, b) || !value.SameSigneds(z.Result.Sets, y.Result.Sets) || z.Q != y.Q || len(z.Heard) != len(y.Heard) || !reflect.DeepEqual(z.Cache, y.Cache) {
				t.Error(x, e)
			}
			for range 50 {
				bad := slices.Clone(b)
				bad[d.Roll(len(b))] ^= byte(1 + d.Roll(255))
				if z, e := transcript.Read(bad); e != api.ErrSum || z.Q.Type != 0 {
					t.Error(e)
				}
				if z, e := transcript.Read(closed(b[:d.Roll(len(b)-8)])); e != api.ErrSyntax || z.Q.Type != 0 {
					t.Error(e)
				}
			}
			if _, e := transcript.Read(closed(append(slices.Clone(b[:len(b)-8]), 0))); e != api.ErrSyntax {
				t.Error(e)
			}
		}
	}
	long := func(n byte) []byte { return []byte{0, 0, 0, 0, 0, 0, 0, n} }
	denial := api.Cache{List: []api.Entry{{Signed: api.Signed{Set: api.Set{Name: "d", Type: 5, Life: 3}}, Zone: ".", Until: 9}}}
	x := api.Transcript{Q: q("t", 5), At: 7, Cache: denial, Heard: []api.Heard{{At: 7, Addr: 2, Q: q("u", 1)}}, Result: api.Verdict{Kind: 3, Q: q("v", 2)}}
	want := slices.Concat([]byte{1, 't', 5}, long(7), []byte{0, 0, 0, 1, 0, 0, 0, 0, 1, 'd', 5}, long(3), []byte{0, 1, '.'}, long(9), []byte{0, 0, 0, 1}, long(7), long(2), []byte{1, 'u', 1, 0, 0, 0, 0, 0, 0, 3, 1, 'v', 2, 0, 0, 0, 0})
	if b, e := transcript.Bytes(x); e != api.OK || !bytes.Equal(b, closed(want)) {
		t.Error(b, e)
	}
	for i, change := range []func(x *api.Transcript){
		func(x *api.Transcript) { x.Q.Type = 0 }, func(x *api.Transcript) { x.At = 10000001 }, func(x *api.Transcript) { x.At = 8 }, func(x *api.Transcript) { x.Heard = slices.Repeat(x.Heard, 41) }, func(x *api.Transcript) { x.Heard = []api.Heard{{At: 7, Q: q("u", 1)}} }, func(x *api.Transcript) { x.Heard = []api.Heard{{At: 7, Addr: 1}} }, func(x *api.Transcript) { x.Result.Kind = 0 }, func(x *api.Transcript) { x.Result.Kind = 2 }, func(x *api.Transcript) { x.Result.Q.Type = 9 },
		func(x *api.Transcript) { x.Result.Sets = make([]api.Signed, 1) }, func(x *api.Transcript) { x.Result = api.Verdict{Kind: 1, Sets: make([]api.Signed, 1)} }, func(x *api.Transcript) { x.Cache.List = slices.Repeat(x.Cache.List, 2) }, func(x *api.Transcript) {
			x.Heard = []api.Heard{{At: 7, Addr: 1, Q: q("u", 1), Answer: api.Answer{Kind: 4}}}
		},
	} {
		y := x
		y.Cache.List = slices.Clone(x.Cache.List)
		change(&y)
		b, e := transcript.Bytes(y)
		if v, f := replay(y); e != api.ErrArg || f != e || len(b) > 0 || v.Kind != 0 {
			t.Error(i, e, f)
		}
	}
	_, e := transcript.Read(make([]byte, 7))
	_, f := transcript.Read(make([]byte, 1000001))
	if e != api.ErrSum || f != api.ErrLimit {
		t.Error(e, f)
	}
}

func closed(b []byte) []byte {
	n := sign.Digest(b)
	b = slices.Clone(b)
	for shift := 56; shift >= 0; shift -= 8 {
		b = append(b, byte(n>>shift))
	}
	return b
}

// P31.3 to P31.7: transcripts of resolvers.
func TestLaws(t *testing.T) {
	for i, x := range asked {
		y, c := resolve(t, api.Cache{}, x, i)
		if y.Result.Kind != api.Secure {
			t.Errorf("%v: %v", x, y.Result)
		}
		v, e := replay(y)
		if e != api.OK || !reflect.DeepEqual(v, y.Result) {
			t.Error(x, v, e)
		}
		check(t, y, true)
		other := y
		other.Result = api.Verdict{Kind: api.Bogus}
		if v2, e := replay(other); e != api.OK || !reflect.DeepEqual(v, v2) {
			t.Error(x, v2, e)
		}
		check(t, other, false)
		less, more := y, y
		less.Heard = y.Heard[:len(y.Heard)-1]
		more.Heard = append(slices.Clone(y.Heard), y.Heard[0])
		if _, e := replay(less); e != api.ErrLost {
			t.Error(x, e)
		}
		if _, e := replay(more); e != api.ErrProof {
			t.Error(x, e)
		}
		for k := range y.Heard {
			for _, change := range []func(h *api.Heard){func(h *api.Heard) { h.Q.Name = "other" }, func(h *api.Heard) { h.Q.Type = 1 + h.Q.Type%8 }, func(h *api.Heard) { h.Addr = 99 }} {
				bad := y
				bad.Heard = slices.Clone(y.Heard)
				change(&bad.Heard[k])
				if _, e := replay(bad); e != api.ErrProof {
					t.Error(x, k, e)
				}
				check(t, bad, false)
			}
		}
		for _, s := range v.Sets {
			heard := slices.ContainsFunc(y.Heard, func(h api.Heard) bool {
				return slices.ContainsFunc(h.Answer.Sets, func(r api.Signed) bool { return value.SameSigned(r, s) })
			})
			if !heard {
				t.Error(x, s, "was not heard")
			}
		}
		cached, _ := resolve(t, c, x, 0)
		if len(cached.Heard) > 0 || !reflect.DeepEqual(cached.Result, v) {
			t.Error(x, "is asked again")
		}
	}
}

// P31.1: what has no room is not learned, and the course ends after 40 addresses.
func TestFull(t *testing.T) {
	var c api.Cache
	for i := range 400 {
		c, _ = cache.Put(c, sample.Signed("n"+string([]byte{byte('a' + i/20), byte('a' + i%20)})+".q", 5, 90, sample.Text("t")), ".", 50)
	}
	y, after := resolve(t, c, q("w.x", 1), 0)
	if y.Result.Kind != api.Missing || len(y.Heard) != 2 || !reflect.DeepEqual(after, c) {
		t.Error(y.Result, len(y.Heard))
	}
	check(t, y, true)
}

// P31.1: the edges of all parts.
func TestEdges(t *testing.T) {
	anchor := sample.Tree().Anchor
	good := api.Transcript{Q: q("t.x", 5), At: 5, Heard: []api.Heard{{At: 5, Addr: 1, Q: q("t.x", 5)}}, Result: api.Verdict{Kind: 3, Q: q("t.x", 5)}}
	replayed := func(x api.Transcript, anchor api.Set, hints []int, drift int) api.Errno {
		_, e := transcript.Replay(x, anchor, hints, drift)
		return e
	}
	for n, want := range map[int]api.Errno{0: api.ErrArg, 1: api.OK, 8: api.OK, 9: api.ErrArg} {
		if e := replayed(good, anchor, []int{1, 2, 3, 4, 5, 6, 7, 8, 9}[:n], 0); (e == api.ErrArg) != (want == api.ErrArg) {
			t.Error(n, e)
		}
	}
	for addr, want := range map[int]bool{0: false, 1: true, 1000000: true, 1000001: false} {
		x := good
		x.Heard = []api.Heard{{At: 5, Addr: addr, Q: good.Q}}
		_, e := transcript.Bytes(x)
		if f := replayed(good, anchor, []int{1, addr}, 0); (e == api.OK) != want || (f == api.ErrArg) == want {
			t.Error(addr, e, f)
		}
	}
	for drift, want := range map[int]bool{-1: false, 0: true, 1000: true, 1001: false} {
		if e := replayed(good, anchor, []int{1}, drift); (e == api.OK) != want {
			t.Error(drift, e)
		}
	}
	for at, want := range map[int]bool{-1: false, 0: true, 10000000: true, 10000001: false} {
		x := good
		x.At, x.Heard = at, nil
		if _, e := transcript.Bytes(x); (e == api.OK) != want {
			t.Error(at, e)
		}
	}
	for i, a := range []api.Set{{Name: ".", Type: 6}, sample.Signed("x", 6, 5, sample.Nums(1, 1)).Set, sample.Signed(".", 7, 5, sample.Nums(1, 1)).Set} {
		if e := replayed(good, a, []int{1}, 0); e != api.ErrArg {
			t.Error(i, e)
		}
	}
	set := sample.Signed("x", 1, 5, sample.Nums(1))
	for i, c := range []struct {
		change func(x *api.Transcript)
		good   bool
	}{
		{func(x *api.Transcript) { x.Result = api.Verdict{Kind: 1, Sets: slices.Repeat([]api.Signed{set}, 40)} }, true}, {func(x *api.Transcript) { x.Result = api.Verdict{Kind: 1, Sets: slices.Repeat([]api.Signed{set}, 41)} }, false}, {func(x *api.Transcript) { x.Result = api.Verdict{Kind: 1, Q: q("x", 1)} }, false}, {func(x *api.Transcript) { x.Result = api.Verdict{Kind: 2, Sets: []api.Signed{set}} }, false}, {func(x *api.Transcript) { x.Result = api.Verdict{Kind: 2, Q: q("x", 1)} }, false}, {func(x *api.Transcript) { x.Result = api.Verdict{Kind: 3} }, false}, {func(x *api.Transcript) { x.Result.Sets = []api.Signed{set} }, false}, {func(x *api.Transcript) { x.Result = api.Verdict{Kind: 4} }, false},
		{func(x *api.Transcript) { x.Heard = slices.Repeat(x.Heard, 40) }, true}, {func(x *api.Transcript) { x.Heard = slices.Repeat(x.Heard, 41) }, false}, {func(x *api.Transcript) { x.Heard[0].Answer = api.Answer{Sets: []api.Signed{set}} }, false}, {func(x *api.Transcript) { x.Heard[0].Answer = api.Answer{Cut: "x"} }, false}, {func(x *api.Transcript) { x.Heard[0].Answer = api.Answer{Kind: 1, Sets: []api.Signed{set}} }, true}, {func(x *api.Transcript) { x.Heard[0].Answer = api.Answer{Kind: 8} }, false}, {func(x *api.Transcript) { x.Q.Type = 9 }, false}, {func(x *api.Transcript) { x.Q.Type = 8 }, true}, {func(x *api.Transcript) { x.Heard[0].Q.Name = "" }, false},
	} {
		x := good
		x.Heard = slices.Clone(good.Heard)
		c.change(&x)
		b, e := transcript.Bytes(x)
		if (e == api.OK) != c.good || c.good != (len(b) > 0) {
			t.Error(i, e)
		}
	}
	sets := slices.Clone(good.Heard)
	sets[0].Answer = api.Answer{Kind: 1, Sets: []api.Signed{{Set: api.Set{Name: "x", Type: 1, Life: 5}}}}
	bad := good
	bad.Heard = sets
	if e := replayed(bad, anchor, []int{1}, 0); e != api.ErrArg {
		t.Error(e)
	}
}

// P31.2: a transcript of just 1000000 bytes, and one of more.
func TestSize(t *testing.T) {
	long := sample.Signed("a", 5, 1)
	for i := range 8 {
		long.Set.Data = append(long.Set.Data, sample.Text(string([]byte{'a' + byte(i)})+"012345678901234567890123456789012345678"))
	}
	long.Sigs = slices.Repeat([]api.Sig{{Zone: "x", Key: 1, Alg: 1}}, 6)
	x := api.Transcript{Q: q("t", 5), Result: api.Verdict{Kind: 2}}
	size := func() int { b, _ := transcript.Bytes(x); return len(b) }
	empty := size()
	heard := api.Heard{Addr: 1, Q: q("t", 5), Answer: api.Answer{Kind: 1, Sets: slices.Repeat([]api.Signed{long}, 38)}}
	x.Heard = []api.Heard{heard}
	each := size() - empty
	for range (995000-empty)/each - 1 {
		x.Heard = append(x.Heard, heard)
	}
	if len(x.Heard) > 40 {
		t.Fatal(len(x.Heard))
	}
	left := 1000000 - size()
	for i := 0; left > 0 && i < 390; i++ {
		// A text with n bytes makes an entry of this size.
		n := min(40, left-(4+2+1+8+8+1+1+16+1+2+8))
		if rest := left - (n + 52); rest > 0 && rest < 60 {
			n -= 10
		}
		name := string([]byte{byte('a' + i/26), byte('a' + i%26)})
		e := api.Entry{Signed: sample.Signed(name, 5, 1, sample.Text(strings.Repeat("t", n))), Zone: ".", Until: 5}
		x.Cache.List = append(x.Cache.List, e)
		left -= n + 52
	}
	b, e := transcript.Bytes(x)
	if e != api.OK || len(b) != 1000000 {
		t.Fatal(len(b), e, left)
	}
	if y, e := transcript.Read(b); e != api.OK || len(y.Heard) != len(x.Heard) {
		t.Error(e)
	}
	x.Q.Name = "tt"
	if b, e := transcript.Bytes(x); e != api.ErrLimit || len(b) > 0 {
		t.Error(e)
	}
}

// P31.3: each part of the result counts.
func TestResult(t *testing.T) {
	good, _ := resolve(t, api.Cache{}, q("l.x", 5), 0)
	check(t, good, true)
	less, other := good, good
	less.Result.Sets = good.Result.Sets[:1]
	other.Result.Sets = slices.Clone(good.Result.Sets)
	other.Result.Sets[0].Set.Life++
	check(t, less, false)
	check(t, other, false)
	dark := api.Transcript{Q: q("t.x", 5), At: 5, Heard: []api.Heard{{At: 5, Addr: 1, Q: q("t.x", 5)}, {At: 5, Addr: 2, Q: q("t.x", 5)}}, Result: api.Verdict{Kind: 3, Q: q("t.x", 5)}}
	check(t, dark, true)
	dark.Result.Q.Type = 1
	check(t, dark, false)
	dark.Result = api.Verdict{Kind: 2}
	check(t, dark, false)
}

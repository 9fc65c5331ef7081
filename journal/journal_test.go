package journal_test

import (
	"bytes"
	"reflect"
	"slices"
	"strings"
	"testing"

	"nameplan/api"
	"nameplan/delta"
	"nameplan/journal"
	"nameplan/sample"
	"nameplan/sign"
	"nameplan/zone"
)

func version(d *sample.Dice, n int) api.Zone {
	z := d.Zone("x")
	s, _, _ := zone.Find(z, api.Question{Name: "x", Type: 4})
	s.Set.Data[0].N = n
	z, _ = zone.Put(z, s)
	z, _ = sign.All(z, []api.Key{{N: 1, Alg: 1}, {N: 7, Alg: 2}}, 0, 9)
	return z
}

// versions returns some versions of a zone, and their differences.
func versions() ([]api.Zone, []api.Delta) {
	d := sample.New(17)
	var l []api.Zone
	var x []api.Delta
	for i := range 6 {
		l = append(l, version(d, i))
		if i > 0 {
			y, _ := delta.Diff(l[i-1], l[i])
			x = append(x, y)
		}
	}
	return l, x
}

func disk(t *testing.T, l []api.Zone, x []api.Delta) api.Disk {
	d, e := journal.Begin(l[0])
	if e != api.OK {
		t.Fatal(e)
	}
	for _, y := range x {
		if d, e = journal.Append(d, y); e != api.OK {
			t.Fatal(e)
		}
	}
	return d
}

func load(t *testing.T, d api.Disk, want api.Zone, has bool) {
	t.Helper()
	z, e := journal.Load(d)
	if has && (e != api.OK || !reflect.DeepEqual(z, want)) || !has && (e != api.ErrLost || z.Apex != "") {
		t.Error(z, e, has)
	}
}

// P13.1: the bytes are those of the document.
func TestBytes(t *testing.T) {
	z := api.Zone{Apex: "x", Sets: []api.Signed{sample.Signed("x", 2, 1, sample.Text("a")), sample.Signed("x", 4, 1, sample.Nums(1, 2))}}
	z.Sets[1].Sigs = []api.Sig{{Zone: "x", Key: 3, Alg: 1, From: 4, Until: 5, Sum: 6}}
	d, _ := journal.Begin(z)
	long := func(n byte) []byte { return []byte{0, 0, 0, 0, 0, 0, 0, n} }
	a := slices.Concat([]byte{1, 'x'}, long(2), long(1), []byte{1, 1, 'a'}, long(0), long(0))
	b := slices.Concat([]byte{1, 'x'}, long(4), long(1), []byte{1, 0}, long(1), long(2))
	w := slices.Concat([]byte{1, 'x', 0, 0, 0, 2, 0, byte(len(a))}, a, []byte{0, 0, byte(len(b))}, b, []byte{1, 1, 'x'}, long(3), long(1), long(4), long(5), long(6))
	head := []byte{1, 0, 0, 0, byte(len(w))}
	sum := func(b []byte) []byte {
		n := sign.Digest(b)
		var out []byte
		for i := 56; i >= 0; i -= 8 {
			out = append(out, byte(n>>i))
		}
		return out
	}
	want := slices.Concat(head, sum(head), w, sum(w))
	if !bytes.Equal(d.Pending[0], want) {
		t.Errorf("%v\n%v", d.Pending[0], want)
	}
	d, _ = journal.Sync(d)
	x := api.Delta{Apex: "x", From: 1, To: 2, Drop: []api.Question{{Name: "q", Type: 5}}, Put: []api.Signed{sample.Signed("x", 4, 1, sample.Nums(2, 2))}}
	d, e := journal.Append(d, x)
	b[len(b)-9] = 2
	w = slices.Concat([]byte{1, 'x'}, long(1), long(2), []byte{0, 0, 0, 1, 1, 'q', 5, 0, 0, 0, 1, 0, byte(len(b))}, b, []byte{0})
	head = []byte{2, 0, 0, 0, byte(len(w))}
	if want := slices.Concat(head, sum(head), w, sum(w)); e != api.OK || !bytes.Equal(d.Pending[0], want) {
		t.Errorf("%v\n%v", d.Pending[0], want)
	}
}

// P13.2, P13.3, P13.4, P13.6: syncs, crashes at any byte, and what follows.
func TestCrashes(t *testing.T) {
	l, x := versions()
	d := disk(t, l, x)
	load(t, d, api.Zone{}, false)
	whole, e := journal.Sync(d)
	if e != api.OK || len(whole.Pending) > 0 {
		t.Fatal(e)
	}
	load(t, whole, l[5], true)
	begun, _ := journal.Begin(l[0])
	safe, _ := journal.Sync(begun)
	for _, begin := range []api.Disk{begun, safe} {
		d := begin
		for i, y := range x {
			d, _ = journal.Append(d, y)
			first := len(d.Pending) - i - 1
			for done := range len(d.Pending) + 1 {
				next := 0
				if done < len(d.Pending) {
					next = len(d.Pending[done])
				}
				for _, cut := range slices.Compact([]int{0, next / 2, max(0, next-1), next}) {
					c, e := journal.Crash(d, done, cut)
					n := done - first
					if cut == next && next > 0 {
						n++
					}
					if e != api.OK {
						t.Fatal(e)
					}
					load(t, c, l[max(0, n)], n >= 0)
					if n >= 0 && n < 5 {
						again, e := journal.Append(c, x[n])
						again, f := journal.Sync(again)
						if e != api.OK || f != api.OK {
							t.Fatal(e, f)
						}
						load(t, again, l[n+1], true)
					}
				}
			}
		}
	}
}

// P13.5: one changed byte hides its frame, and all behind it.
func TestDamage(t *testing.T) {
	l, x := versions()
	d := disk(t, l, x[:2])
	s, _ := journal.Sync(d)
	for i := range s.Safe {
		c := api.Disk{Safe: slices.Clone(s.Safe)}
		c.Safe[i] ^= byte(1 + i%255)
		n := -1
		for k, at := 0, 0; k < len(d.Pending) && at+len(d.Pending[k]) <= i; k++ {
			at += len(d.Pending[k])
			n = k
		}
		load(t, c, l[max(0, n)], n >= 0)
	}
}

// P13.1, P13.7: errors.
func TestErrors(t *testing.T) {
	l, x := versions()
	d := disk(t, l, x[:1])
	for i, c := range []struct {
		d api.Disk
		x api.Delta
		e api.Errno
	}{
		{d, x[2], api.ErrOld}, {d, x[0], api.ErrOld}, {d, api.Delta{}, api.ErrArg}, {api.Disk{}, x[0], api.ErrLost}, {api.Disk{}, api.Delta{}, api.ErrArg},
		{api.Disk{Pending: [][]byte{{}}}, x[0], api.ErrArg}, {api.Disk{Pending: [][]byte{{1}}}, x[0], api.ErrArg}, {api.Disk{Pending: d.Pending[1:]}, x[1], api.ErrArg}, {api.Disk{Pending: [][]byte{slices.Concat(d.Pending...)}}, x[1], api.ErrArg},
		{api.Disk{Safe: make([]byte, 1000001)}, x[1], api.ErrArg}, {api.Disk{Safe: make([]byte, 1000000)}, x[1], api.ErrLost}, {api.Disk{Safe: d.Pending[0], Pending: d.Pending}, x[1], api.ErrArg},
	} {
		out, e := journal.Append(c.d, c.x)
		if e != c.e || len(out.Safe)+len(out.Pending) > 0 {
			t.Error(i, e)
		}
		if e == api.ErrArg && c.x.Apex != "" {
			_, e1 := journal.Sync(c.d)
			_, e2 := journal.Crash(c.d, 0, 0)
			_, e3 := journal.Load(c.d)
			if e1 != e || e2 != e || e3 != e {
				t.Error(i, e1, e2, e3)
			}
		}
	}
	for _, c := range [][2]int{{-1, 0}, {3, 0}, {0, -1}, {2, 1}, {0, len(d.Pending[0]) + 1}} {
		if out, e := journal.Crash(d, c[0], c[1]); e != api.ErrArg || len(out.Safe) > 0 {
			t.Error(c, e)
		}
	}
	if out, e := journal.Begin(api.Zone{}); e != api.ErrArg || len(out.Pending) > 0 {
		t.Error(e)
	}
}

// P13.1: limits of frames and bytes.
func TestLimits(t *testing.T) {
	z := sample.Bare("x", 0, "a")
	for i := range 3000 {
		s := sample.Signed("n"+string([]byte{byte('a' + i/676), byte('a' + i/26%26), byte('a' + i%26)})+".x", 5, 1)
		for k := range 8 {
			s.Set.Data = append(s.Set.Data, sample.Text("012345678901234567890123456789"+string([]byte{'a' + byte(k)})))
		}
		z.Sets = append(z.Sets, s)
	}
	if d, e := journal.Begin(z); e != api.ErrFull || len(d.Pending) > 0 {
		t.Error(e)
	}
	z.Sets = z.Sets[:2000]
	if d, e := journal.Begin(z); e != api.OK || len(d.Pending) != 1 {
		t.Error(e)
	}
	d, _ := journal.Begin(sample.Bare("x", 0, "a"))
	for i := range 200 {
		x := api.Delta{Apex: "x", From: i, To: i + 1, Put: []api.Signed{sample.Signed("x", 4, 1, sample.Nums(i+1))}}
		out, e := journal.Append(d, x)
		if (i < 199) != (e == api.OK) || e != api.OK && e != api.ErrLimit {
			t.Fatal(i, e)
		}
		if e == api.OK {
			d = out
		}
	}
}

// framed returns the frame of a kind with a writing.
func framed(kind byte, w []byte) []byte {
	sum := func(b []byte) []byte {
		n := sign.Digest(b)
		var out []byte
		for i := 56; i >= 0; i -= 8 {
			out = append(out, byte(n>>i))
		}
		return out
	}
	head := []byte{kind, byte(len(w) >> 24), byte(len(w) >> 16), byte(len(w) >> 8), byte(len(w))}
	return slices.Concat(head, sum(head), w, sum(w))
}

// P13.1: frames with right digests that say nothing valid.
func TestFrames(t *testing.T) {
	l, x := versions()
	d := disk(t, l, x[:1])
	writing := func(b []byte) []byte { return b[13 : len(b)-8] }
	z, y := writing(d.Pending[0]), writing(d.Pending[1])
	load(t, api.Disk{Safe: framed(1, z)}, l[0], true)
	load(t, api.Disk{Safe: slices.Concat(framed(1, z), framed(2, y))}, l[1], true)
	load(t, api.Disk{Safe: framed(1, append(slices.Clone(z), 0))}, l[0], false)
	load(t, api.Disk{Safe: framed(1, z[:len(z)-1])}, l[0], false)
	load(t, api.Disk{Safe: framed(2, z)}, l[0], false)
	load(t, api.Disk{Safe: framed(3, z)}, l[0], false)
	load(t, api.Disk{Safe: framed(1, []byte{1, 'x', 0, 0, 0, 0})}, l[0], false)
	load(t, api.Disk{Safe: framed(1, []byte{1, 'x', 0, 0, 0, 1, 0, 1, 5, 0})}, l[0], false)
	load(t, api.Disk{Safe: slices.Concat(framed(1, z), framed(1, z))}, l[0], true)
	load(t, api.Disk{Safe: slices.Concat(framed(1, z), framed(2, append(slices.Clone(y), 0)))}, l[0], true)
	load(t, api.Disk{Safe: slices.Concat(framed(1, z), framed(2, y), framed(2, y))}, l[1], true)
}

// sized returns a zone whose frame has a size.
func sized(size int) api.Zone {
	z := sample.Bare("x", 0, "a")
	add := func(i, n int) {
		name := "n" + string([]byte{byte('a' + i/676), byte('a' + i/26%26), byte('a' + i%26)}) + ".x"
		z.Sets = append(z.Sets, sample.Signed(name, 5, 1, sample.Text(strings.Repeat("t", n))))
	}
	length := func() int {
		d, _ := journal.Begin(z)
		return len(d.Pending[0])
	}
	add(0, 40)
	old := length()
	add(1, 40)
	each := length() - old
	i := 2
	for left := size - length(); left > 2*each; left -= each {
		add(i, 40)
		i++
	}
	left := size - length()
	add(i, left/2-each+40)
	add(i+1, left-left/2-each+40)
	return z
}

// P13.1: disks that are just full.
func TestFull(t *testing.T) {
	for size, want := range map[int]api.Errno{999999: api.OK, 1000000: api.OK, 1000001: api.ErrFull} {
		d, e := journal.Begin(sized(size))
		if e != want || e == api.OK && len(d.Pending[0]) != size {
			t.Error(size, e)
		}
	}
	x := api.Delta{Apex: "x", To: 1, Put: []api.Signed{sample.Signed("x", 4, 1, sample.Nums(1))}}
	small, _ := journal.Begin(sample.Bare("x", 0, "a"))
	small, _ = journal.Append(small, x)
	n := len(small.Pending[1])
	for more, want := range map[int]api.Errno{0: api.OK, 1: api.ErrFull} {
		d, _ := journal.Begin(sized(1000000 - n + more))
		a, e := journal.Append(d, x)
		made := api.Disk{Pending: [][]byte{d.Pending[0], small.Pending[1]}}
		s, f := journal.Sync(made)
		c, g := journal.Crash(made, 2, 0)
		_, h := journal.Crash(made, 1, n)
		_, k := journal.Crash(made, 1, n-1)
		if e != want || f != want || g != want || h != want || k != api.OK || e == api.OK && (len(a.Pending) != 2 || len(s.Safe) != 1000000 || len(c.Safe) != 1000000) {
			t.Error(more, e, f, g, h, k)
		}
	}
	begun, _ := journal.Begin(sample.Bare("x", 0, "a"))
	d := begun
	for i := range 199 {
		d, _ = journal.Append(d, api.Delta{Apex: "x", From: i, To: i + 1, Put: []api.Signed{sample.Signed("x", 4, 1, sample.Nums(i+1))}})
	}
	if s, e := journal.Sync(d); len(d.Pending) != 200 || e != api.OK || len(s.Safe) == 0 {
		t.Error(len(d.Pending), e)
	}
	last := api.Disk{Safe: begun.Pending[0]}
	for i := range 201 {
		y, _ := journal.Append(last, api.Delta{Apex: "x", From: i, To: i + 1, Put: []api.Signed{sample.Signed("x", 4, 1, sample.Nums(i+1))}})
		if i < 200 {
			last.Safe = append(slices.Clone(last.Safe), y.Pending[0]...)
		}
		d.Pending = append(d.Pending[:min(len(d.Pending), i)], y.Pending[0])
	}
	over := api.Disk{Safe: begun.Pending[0], Pending: d.Pending}
	if _, e := journal.Sync(over); len(over.Pending) != 201 || e != api.ErrArg {
		t.Error(len(over.Pending), e)
	}
	over.Pending = over.Pending[:200]
	if _, e := journal.Sync(over); e != api.OK {
		t.Error(e)
	}
}

// P13.1: differences that are not in form, as the questions of Drop are not in order, are neither appended nor read.
func TestForm(t *testing.T) {
	old, now := sample.Bare("x", 0, "a"), sample.Bare("x", 1, "a")
	x, _ := delta.Diff(old, now)
	x.Drop = []api.Question{{Name: "v.x", Type: 1}, {Name: "w.x", Type: 1}}
	begun, _ := journal.Begin(old)
	d, e := journal.Append(begun, x)
	if e != api.OK {
		t.Fatal(e)
	}
	whole, _ := journal.Sync(d)
	load(t, whole, now, true)
	good := d.Pending[1][13 : len(d.Pending[1])-8]
	asked := []byte("\x03v.x\x01\x03w.x\x01")
	for i, drop := range [][]api.Question{
		{{Name: "w.x", Type: 1}, {Name: "w.x", Type: 1}},
		{{Name: "w.x", Type: 1}, {Name: "v.x", Type: 1}},
		{{Name: "w.x", Type: 5}, {Name: "w.x", Type: 1}},
	} {
		y := x
		y.Drop = drop
		for _, d := range []api.Disk{begun, {Safe: begun.Pending[0]}, {}} {
			if out, e := journal.Append(d, y); e != api.ErrArg || len(out.Safe)+len(out.Pending) > 0 {
				t.Error(i, e)
			}
		}
		var w []byte
		for _, q := range drop {
			w = slices.Concat(w, []byte{byte(len(q.Name))}, []byte(q.Name), []byte{byte(q.Type)})
		}
		frame := framed(2, bytes.Replace(good, asked, w, 1))
		load(t, api.Disk{Safe: slices.Concat(begun.Pending[0], frame)}, old, true)
		for _, d := range []api.Disk{{Pending: [][]byte{begun.Pending[0], frame}}, {Safe: begun.Pending[0], Pending: [][]byte{frame}}} {
			if out, e := journal.Sync(d); e != api.ErrArg || len(out.Safe) > 0 {
				t.Error(i, e)
			}
		}
	}
}

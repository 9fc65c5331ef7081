package transcript

import (
	"bytes"
	"errors"

	"nameplan/api"
	"nameplan/record"
)

// writing is what is written so far.
type writing struct{ bytes.Buffer }

func (w *writing) big(n uint64, size int) {
	for i := size - 1; i >= 0; i-- {
		w.WriteByte(byte(n >> (8 * i)))
	}
}

func (w *writing) number(n uint64) { w.big(n, 8) }

func (w *writing) count(n int) { w.big(uint64(n), 4) }

func (w *writing) text(s string) {
	w.WriteByte(byte(len(s)))
	w.WriteString(s)
}

func (w *writing) question(q api.Question) {
	w.text(q.Name)
	w.WriteByte(byte(q.Type))
}

func (w *writing) signed(s api.Signed) {
	if len(s.Set.Data) == 0 {
		w.count(0)
		w.question(api.Question{Name: s.Set.Name, Type: s.Set.Type})
		w.number(uint64(s.Set.Life))
	} else {
		b, _ := record.Bytes(s.Set)
		w.count(len(b))
		w.Write(b)
	}
	w.WriteByte(byte(len(s.Sigs)))
	for _, g := range s.Sigs {
		w.text(g.Zone)
		for _, n := range []int{g.Key, g.Alg, g.From, g.Until} {
			w.number(uint64(n))
		}
		w.number(g.Sum)
	}
}

func (w *writing) sets(l []api.Signed) {
	w.count(len(l))
	for _, s := range l {
		w.signed(s)
	}
}

func (w *writing) transcript(t api.Transcript) {
	w.question(t.Q)
	w.number(uint64(t.At))
	w.count(len(t.Cache.List))
	for _, e := range t.Cache.List {
		w.signed(e.Signed)
		w.text(e.Zone)
		w.number(uint64(e.Until))
	}
	w.count(len(t.Heard))
	for _, x := range t.Heard {
		w.number(uint64(x.At))
		w.number(uint64(x.Addr))
		w.question(x.Q)
		w.WriteByte(byte(x.Answer.Kind))
		w.text(x.Answer.Cut)
		w.sets(x.Answer.Sets)
	}
	w.WriteByte(byte(t.Result.Kind))
	w.question(t.Result.Q)
	w.sets(t.Result.Sets)
}

// reader reads the bytes that are left; it is left by a panic where they are too few.
type reader struct{ left []byte }

func (r *reader) take(n int) []byte {
	if n > len(r.left) {
		panic(errBroken)
	}
	b := r.left[:n]
	r.left = r.left[n:]
	return b
}

func (r *reader) big(size int) int {
	n := uint64(0)
	for _, c := range r.take(size) {
		n = n<<8 | uint64(c)
	}
	return int(n)
}

func (r *reader) number() int { return r.big(8) }

func (r *reader) small() int { return r.big(1) }

func (r *reader) text() string { return string(r.take(r.small())) }

func (r *reader) question() api.Question {
	return api.Question{Name: r.text(), Type: r.small()}
}

func (r *reader) set() api.Set {
	n := r.big(4)
	if n == 0 {
		q := r.question()
		return api.Set{Name: q.Name, Type: q.Type, Life: r.number()}
	}
	s, e := record.Read(r.take(n))
	if e != api.OK {
		panic(errBroken)
	}
	return s
}

func (r *reader) sig() api.Sig {
	return api.Sig{Zone: r.text(), Key: r.number(), Alg: r.number(), From: r.number(), Until: r.number(), Sum: uint64(r.number())}
}

func (r *reader) signed() api.Signed {
	return api.Signed{Set: r.set(), Sigs: list(r.small(), r.sig)}
}

func (r *reader) entry() api.Entry {
	return api.Entry{Signed: r.signed(), Zone: r.text(), Until: r.number()}
}

func (r *reader) heard() api.Heard {
	x := api.Heard{At: r.number(), Addr: r.number(), Q: r.question()}
	x.Answer = api.Answer{Kind: r.small(), Cut: r.text(), Sets: list(r.big(4), r.signed)}
	return x
}

// list reads as many parts as a count says.
func list[T any](n int, part func() T) []T {
	var out []T
	for range n {
		out = append(out, part())
	}
	return out
}

// read reads a transcript, if the bytes are enough, and no more.
func read(b []byte) (t api.Transcript, ok bool) {
	defer func() {
		if x := recover(); x != nil {
			if e, is := x.(error); !is || !errors.Is(e, errBroken) {
				panic(x)
			}
			t, ok = api.Transcript{}, false
		}
	}()
	r := &reader{left: b}
	t.Q = r.question()
	t.At = r.number()
	t.Cache.List = list(r.big(4), r.entry)
	t.Heard = list(r.big(4), r.heard)
	t.Result = api.Verdict{Kind: r.small(), Q: r.question(), Sets: list(r.big(4), r.signed)}
	return t, len(r.left) == 0
}

package journal

import (
	"bytes"
	"errors"

	"nameplan/api"
	"nameplan/record"
	"nameplan/sign"
)

// headSize is the size of the kind and the count of a frame.
const headSize = 5

// errBroken leaves what is read.
var errBroken = errors.New("no frame")

// writing is what is written so far.
type writing struct{ bytes.Buffer }

func (w *writing) big(n uint64, size int) {
	for i := size - 1; i >= 0; i-- {
		w.WriteByte(byte(n >> (8 * i)))
	}
}

func (w *writing) number(n int) { w.big(uint64(n), 8) }

func (w *writing) count(n int) { w.big(uint64(n), 4) }

func (w *writing) text(s string) {
	w.WriteByte(byte(len(s)))
	w.WriteString(s)
}

func (w *writing) signed(s api.Signed) {
	b, _ := record.Bytes(s.Set)
	w.big(uint64(len(b)), 2)
	w.Write(b)
	w.WriteByte(byte(len(s.Sigs)))
	for _, g := range s.Sigs {
		w.text(g.Zone)
		w.number(g.Key)
		w.number(g.Alg)
		w.number(g.From)
		w.number(g.Until)
		w.big(g.Sum, 8)
	}
}

func (w *writing) sets(l []api.Signed) {
	w.count(len(l))
	for _, s := range l {
		w.signed(s)
	}
}

// frame returns the frame of a kind with what was written.
func (w *writing) frame(kind byte) []byte {
	var f writing
	f.WriteByte(kind)
	f.count(w.Len())
	f.big(sign.Digest(f.Bytes()), 8)
	f.Write(w.Bytes())
	f.big(sign.Digest(w.Bytes()), 8)
	return f.Bytes()
}

func zoneBytes(z api.Zone) []byte {
	var w writing
	w.text(z.Apex)
	w.sets(z.Sets)
	return w.frame(zoneFrame)
}

func deltaBytes(d api.Delta) []byte {
	var w writing
	w.text(d.Apex)
	w.number(d.From)
	w.number(d.To)
	w.count(len(d.Drop))
	for _, q := range d.Drop {
		w.text(q.Name)
		w.WriteByte(byte(q.Type))
	}
	w.sets(d.Put)
	return w.frame(deltaFrame)
}

// frame is what a frame says.
type frame struct {
	isZone bool
	zone   api.Zone
	delta  api.Delta
}

// reader reads the bytes that are left; it is left by a panic where they are not as they should be.
type reader struct{ left []byte }

func (r *reader) take(n int) []byte {
	if n > len(r.left) {
		panic(errBroken)
	}
	b := r.left[:n]
	r.left = r.left[n:]
	return b
}

func (r *reader) big(size int) uint64 {
	n := uint64(0)
	for _, c := range r.take(size) {
		n = n<<8 | uint64(c)
	}
	return n
}

func (r *reader) number() int { return int(r.big(8)) }

func (r *reader) text() string { return string(r.take(int(r.big(1)))) }

func (r *reader) signed() api.Signed {
	s, e := record.Read(r.take(int(r.big(2))))
	if e != api.OK {
		panic(errBroken)
	}
	out := api.Signed{Set: s}
	for range int(r.big(1)) {
		g := api.Sig{Zone: r.text(), Key: r.number(), Alg: r.number(), From: r.number(), Until: r.number(), Sum: r.big(8)}
		out.Sigs = append(out.Sigs, g)
	}
	return out
}

func (r *reader) sets() []api.Signed {
	var out []api.Signed
	for range int(r.big(4)) {
		out = append(out, r.signed())
	}
	return out
}

func (r *reader) delta() api.Delta {
	d := api.Delta{Apex: r.text(), From: r.number(), To: r.number()}
	for range int(r.big(4)) {
		d.Drop = append(d.Drop, api.Question{Name: r.text(), Type: int(r.big(1))})
	}
	d.Put = r.sets()
	return d
}

// frame reads a frame, if there is one.
func (r *reader) frame() (f frame, ok bool) {
	defer func() {
		if x := recover(); x != nil {
			if e, is := x.(error); !is || !errors.Is(e, errBroken) {
				panic(x)
			}
			f, ok = frame{}, false
		}
	}()
	head := r.take(headSize)
	h := reader{left: head}
	kind := h.big(1)
	size := int(h.big(4))
	if r.big(8) != sign.Digest(head) {
		panic(errBroken)
	}
	body := r.take(size)
	if r.big(8) != sign.Digest(body) {
		panic(errBroken)
	}
	w := reader{left: body}
	switch kind {
	case zoneFrame:
		f = frame{isZone: true, zone: api.Zone{Apex: w.text(), Sets: w.sets()}}
	case deltaFrame:
		f = frame{delta: w.delta()}
	default:
		panic(errBroken)
	}
	if len(w.left) > 0 {
		panic(errBroken)
	}
	return f, true
}

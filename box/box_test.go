package box

import (
	"math"
	"math/rand"
	"slices"
	"testing"
	"time"

	"convoker/api"
)

// edges are numbers that are put.
var edges = []int{math.MinInt, math.MinInt + 1, -1 << 40, -1 << 31, -1, 0, 1, 1000, 1001, 1 << 31, 1 << 40, math.MaxInt - 1, math.MaxInt}

// plain is a size and the numbers as they came: a second way of keeping a box.
type plain struct {
	size int
	in   []int
}

func (p *plain) put(n int) api.Errno {
	if len(p.in) == p.size {
		return api.ErrFull
	}
	p.in = append(slices.Clone(p.in), n)
	return api.OK
}

func (p *plain) take() (int, bool) {
	if len(p.in) == 0 {
		return 0, false
	}
	n := p.in[0]
	p.in = p.in[1:]
	return n, true
}

func made(t *testing.T, size int) *Box {
	t.Helper()
	b, e := New(size)
	if b == nil || e != api.OK {
		t.Fatalf("New(%d): %v, %d", size, b, e)
	}
	return b
}

// of is a box of the size with these numbers.
func of(t *testing.T, size int, in ...int) *Box {
	t.Helper()
	b := made(t, size)
	for _, n := range in {
		put(t, b, n, api.OK)
	}
	return b
}

func put(t *testing.T, b *Box, n int, want api.Errno) {
	t.Helper()
	if e := b.Put(n); e != want {
		t.Fatalf("Put(%d): %d, not %d", n, e, want)
	}
}

func take(t *testing.T, b *Box, want int, has bool) {
	t.Helper()
	if n, ok := b.Take(); n != want || ok != has {
		t.Fatalf("Take: %d, %t, not %d, %t", n, ok, want, has)
	}
}

func first(t *testing.T, l []*Box, place, want int, has bool) {
	t.Helper()
	if i, n, ok := First(l); i != place || n != want || ok != has {
		t.Fatalf("First: %d, %d, %t, not %d, %d, %t", i, n, ok, place, want, has)
	}
}

// hold holds what the box tells against its numbers.
func hold(t *testing.T, b *Box, want ...int) {
	t.Helper()
	if l := b.List(); !slices.Equal(l, want) {
		t.Fatalf("List: %v, not %v", l, want)
	}
	if n := b.Len(); n != len(want) {
		t.Fatalf("Len: %d of %v", n, want)
	}
}

// drain takes all, and holds it against the box's numbers.
func drain(t *testing.T, b *Box, want ...int) {
	t.Helper()
	for _, n := range want {
		take(t, b, n, true)
	}
	for range 3 {
		take(t, b, 0, false)
		hold(t, b)
	}
}

// fill puts until the box has as many as its size, and holds that it takes no
// more.
func fill(t *testing.T, b *Box, size int) {
	t.Helper()
	want := b.List()
	for n := -7; len(want) < size; n-- {
		put(t, b, n, api.OK)
		want = append(want, n)
	}
	for range 3 {
		put(t, b, 99, api.ErrFull)
		hold(t, b, want...)
	}
}

func TestP12_1Example(t *testing.T) {
	b := made(t, 1)
	put(t, b, 7, api.OK)
	put(t, b, 8, api.ErrFull)
	take(t, b, 7, true)
	take(t, b, 0, false)
}

// A call on a full box, or on an empty one, answers at once.
func TestP12_1NeverWaits(t *testing.T) {
	done := make(chan bool)
	go func() {
		defer close(done)
		b, _ := New(2)
		b.Take()
		b.List()
		b.Copy().Take()
		First([]*Box{b, b})
		for range 4 {
			b.Put(1)
		}
		b.List()
		b.Copy().Put(1)
		for range 4 {
			First([]*Box{b, b})
		}
	}()
	select {
	case <-done:
	case <-time.After(time.Minute):
		t.Fatal("a call waits")
	}
}

func TestP12_1Range(t *testing.T) {
	wrong := []int{math.MinInt, math.MinInt + 1, math.MinInt + 1000, -1 << 40, -1001, -1000, -2, -1, 0, 1001, 1002, 1024, 1<<16 + 1, 1 << 31, 1<<31 + 1, 1 << 32, 1<<32 + 1, 1<<32 + 1000, 1 << 62, math.MaxInt - 1, math.MaxInt}
	for _, size := range wrong {
		if b, e := New(size); b != nil || e != api.ErrRange {
			t.Errorf("New(%d): %v, %d", size, b, e)
		}
	}
}

// Each size that may be: an empty box, for just as many numbers.
func TestP12_1Sizes(t *testing.T) {
	for size := 1; size <= 1000; size++ {
		b := made(t, size)
		hold(t, b)
		take(t, b, 0, false)
		var want []int
		for i := range size {
			n := i*i - 500
			put(t, b, n, api.OK)
			want = append(want, n)
			if b.Len() != i+1 {
				t.Fatalf("size %d: Len %d behind %d", size, b.Len(), i+1)
			}
		}
		fill(t, b, size)
		fill(t, b.Copy(), size)
		hold(t, b, want...)
		drain(t, b, want...)
		fill(t, b, size)
	}
}

// A number is taken as it was put, whatever it is.
func TestP12_1Numbers(t *testing.T) {
	b := of(t, len(edges), edges...)
	hold(t, b, edges...)
	drain(t, b.Copy(), edges...)
	drain(t, b, edges...)
	for _, n := range edges {
		put(t, b, n, api.OK)
		take(t, b, n, true)
		take(t, b, 0, false)
	}
	b = of(t, 3, 0, 0, 0)
	hold(t, b, 0, 0, 0)
	drain(t, b, 0, 0, 0)
	b = of(t, 4, 5, 5, 3, 5)
	hold(t, b, 5, 5, 3, 5)
	drain(t, b, 5, 5, 3, 5)
}

// Two boxes know nothing of each other.
func TestP12_1Two(t *testing.T) {
	a, b := made(t, 1), made(t, 2)
	put(t, a, 1, api.OK)
	hold(t, b)
	put(t, b, 2, api.OK)
	put(t, b, 3, api.OK)
	put(t, a, 4, api.ErrFull)
	hold(t, a, 1)
	drain(t, b, 2, 3)
	hold(t, a, 1)
}

// Whatever is asked, nothing is taken by it.
func TestP12_1Asked(t *testing.T) {
	for n := range 5 {
		want := []int{9, -8, 7, 0}[:n]
		b := of(t, 4, want...)
		for range 7 {
			hold(t, b, want...)
			hold(t, b.Copy(), want...)
		}
		drain(t, b.Copy(), want...)
		fill(t, b, 4)
	}
}

// Each row of up to ten puts and takes, at each size up to five.
func TestP12_1Each(t *testing.T) {
	for size := 1; size <= 5; size++ {
		for acts := range 1 << 10 {
			b, p := made(t, size), plain{size: size}
			for i := range 10 {
				if acts>>i&1 == 0 {
					put(t, b, i+1, p.put(i+1))
				} else {
					want, has := p.take()
					take(t, b, want, has)
				}
				if b.Len() != len(p.in) {
					t.Fatalf("Len: %d of %v", b.Len(), p.in)
				}
			}
			o := b.Copy()
			hold(t, b, p.in...)
			hold(t, o, p.in...)
			fill(t, o, size)
			drain(t, b, p.in...)
		}
	}
}

// List tells the order also where numbers were taken from a full box, and
// others put behind.
func TestP12_1Round(t *testing.T) {
	for size := 1; size <= 8; size++ {
		b, p := made(t, size), plain{size: size}
		for n := range size {
			put(t, b, n, p.put(n))
		}
		for n := range 3 * size {
			want, has := p.take()
			take(t, b, want, has)
			hold(t, b, p.in...)
			put(t, b, 100+n, p.put(100+n))
			hold(t, b, p.in...)
			put(t, b, 99, api.ErrFull)
			hold(t, b.Copy(), p.in...)
		}
		drain(t, b, p.in...)
	}
}

// A box and its copy go apart, whichever of them is changed, and how.
func TestP12_1Copy(t *testing.T) {
	changes := []func(*Box){
		func(b *Box) {},
		func(b *Box) { b.Put(50) },
		func(b *Box) { b.Take() },
		func(b *Box) { b.Take(); b.Put(60) },
		func(b *Box) { b.Take(); b.Take(); b.Take(); b.Put(70); b.Put(80) },
		func(b *Box) { b.Put(90); b.Put(91); b.Put(92); b.Put(93); b.Put(94) },
		func(b *Box) { First([]*Box{b}) },
	}
	for n := range 5 {
		want := []int{4, 3, 2, 1}[:n]
		for _, one := range changes {
			for _, other := range changes {
				b, c, d := of(t, 4, want...), of(t, 4, want...), of(t, 4, want...)
				one(c)
				other(d)
				o := b.Copy()
				one(b)
				hold(t, o, want...)
				other(o)
				hold(t, b, c.List()...)
				hold(t, o, d.List()...)
				fill(t, b.Copy(), 4)
				fill(t, o.Copy(), 4)
				drain(t, b, c.List()...)
				drain(t, o, d.List()...)
			}
		}
	}
}

// spoil writes into all of a list's memory, its spare room too.
func spoil(l []int) {
	l = l[:cap(l)]
	for i := range l {
		l[i] = 77
	}
}

// What is written into a list that was handed out shows nowhere else, and a
// list stays as it was, whatever is done to the box later.
func TestP12_1List(t *testing.T) {
	for n := range 9 {
		var want []int
		for i := range n {
			want = append(want, 30-i)
		}
		b := of(t, 10, want...)
		o := b.Copy()
		l, other := b.List(), b.List()
		spoil(l)
		_ = append(l, 78)
		hold(t, b, want...)
		hold(t, o, want...)
		b.Take()
		b.Put(79)
		spoil(b.List())
		if !slices.Equal(other, want) {
			t.Errorf("another list: %v, not %v", other, want)
		}
		drain(t, o, want...)
	}
}

func TestP12_2None(t *testing.T) {
	first(t, nil, 0, 0, false)
	first(t, []*Box{}, 0, 0, false)
	var l []*Box
	for size := 1; size <= 5; size++ {
		l = append(l, made(t, size))
		first(t, l, 0, 0, false)
	}
	for size, b := range l {
		hold(t, b)
		fill(t, b, size+1)
	}
}

func TestP12_2Known(t *testing.T) {
	l := []*Box{made(t, 2), of(t, 2, 8, 9), of(t, 2, 7)}
	first(t, l, 1, 8, true)
	hold(t, l[0])
	hold(t, l[1], 9)
	hold(t, l[2], 7)
	first(t, l, 1, 9, true)
	first(t, l, 2, 7, true)
	first(t, l, 0, 0, false)
	put(t, l[2], 5, api.OK)
	put(t, l[0], 0, api.OK)
	first(t, l, 0, 0, true)
	first(t, l, 2, 5, true)
	first(t, l, 0, 0, false)
}

// One number, of each of the edges, in each of up to twenty boxes.
func TestP12_2Place(t *testing.T) {
	for many := 1; many <= 20; many++ {
		l := make([]*Box, many)
		for i := range l {
			l[i] = made(t, 1)
		}
		for i := range l {
			for _, n := range edges {
				put(t, l[i], n, api.OK)
				first(t, l, i, n, true)
				first(t, l, 0, 0, false)
			}
		}
	}
}

// Each four boxes of up to two numbers: all are taken, box by box, and a box
// behind the one that is taken from stays as it is.
func TestP12_2Each(t *testing.T) {
	for code := range 81 {
		var l []*Box
		var in [][]int
		for i := range 4 {
			n := []int{code % 3, code / 3 % 3, code / 9 % 3, code / 27}[i]
			in = append(in, []int{10*i - 15, 5 - 10*i}[:n])
			l = append(l, of(t, 2+i, in[i]...))
		}
		for i := range in {
			for len(in[i]) > 0 {
				first(t, l, i, in[i][0], true)
				in[i] = in[i][1:]
				for k, b := range l {
					hold(t, b, in[k]...)
				}
			}
		}
		first(t, l, 0, 0, false)
	}
}

// One box may lie in the list at more than one place: the first one tells.
func TestP12_2Same(t *testing.T) {
	b, none := of(t, 3, 1, 2, 3), made(t, 1)
	l := []*Box{none, b, b, none, b}
	for n := 1; n <= 3; n++ {
		first(t, l, 1, n, true)
	}
	first(t, l, 0, 0, false)
}

// The list that is handed in is not changed, what lies behind its length is
// not asked, and nothing is kept of it.
func TestP12_2In(t *testing.T) {
	a, b, behind := made(t, 1), of(t, 2, 4, 5), of(t, 1, 6)
	all := []*Box{a, b, behind}
	l := all[:2]
	first(t, l, 1, 4, true)
	first(t, l, 1, 5, true)
	first(t, l, 0, 0, false)
	if !slices.Equal(all, []*Box{a, b, behind}) {
		t.Error("the list is another one")
	}
	hold(t, behind, 6)
	first(t, all[:0], 0, 0, false)
	first(t, all[2:], 0, 6, true)
	first(t, all, 0, 0, false)
}

// As the boxes are filled on and on, each First is held against plain ones.
func TestP12_2Random(t *testing.T) {
	r := rand.New(rand.NewSource(122))
	for range 300 {
		l := make([]*Box, r.Intn(6))
		p := make([]plain, len(l))
		for i := range l {
			p[i].size = 1 + r.Intn(4)
			l[i] = made(t, p[i].size)
		}
		for n := range 100 {
			if len(l) > 0 && r.Intn(2) == 0 {
				i := r.Intn(len(l))
				put(t, l[i], n, p[i].put(n))
				continue
			}
			place, want, has := plainFirst(p)
			first(t, l, place, want, has)
		}
		for i, b := range l {
			drain(t, b, p[i].in...)
		}
	}
}

func plainFirst(p []plain) (int, int, bool) {
	for i := range p {
		if n, ok := p[i].take(); ok {
			return i, n, true
		}
	}
	return 0, 0, false
}

// What was put is taken, once, in its order, whatever is asked between; and
// never more than the size lie there.
func TestP12_3(t *testing.T) {
	r := rand.New(rand.NewSource(123))
	for range 300 {
		size := 1 + r.Intn(12)
		if r.Intn(20) == 0 {
			size = 1000 - r.Intn(3)
		}
		b := made(t, size)
		var was, taken []int
		got := func(n int, ok bool) {
			if ok {
				taken = append(taken, n)
			}
		}
		more := 1 + r.Intn(4)
		for n := range 3 * (size + 50) {
			switch k := r.Intn(4 + more); k {
			case 0:
				got(b.Take())
			case 1:
				_, n, ok := First([]*Box{b})
				got(n, ok)
			case 2:
				b = b.Copy()
			case 3:
				spoil(b.List())
			default:
				if b.Put(n) == api.OK {
					was = append(was, n)
				}
			}
			if lie := len(was) - len(taken); b.Len() != lie || lie > size || lie < 0 {
				t.Fatalf("size %d: Len %d, %d were put, %d taken", size, b.Len(), len(was), len(taken))
			}
		}
		drain(t, b, was[len(taken):]...)
		if !slices.Equal(taken, was[:len(taken)]) {
			t.Fatalf("size %d: taken %v, put %v", size, taken, was)
		}
	}
}

// Many numbers go through one box.
func TestP12_3Many(t *testing.T) {
	b := made(t, 1000)
	next := 0
	for n := range 300000 {
		if b.Len() == 1000 {
			put(t, b, n, api.ErrFull)
			take(t, b, next, true)
			next++
		}
		put(t, b, n, api.OK)
	}
	for ; next < 300000; next++ {
		take(t, b, next, true)
	}
	take(t, b, 0, false)
}

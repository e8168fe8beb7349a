package timer

import (
	"math"
	"math/rand"
	"slices"
	"testing"
)

// edges are the numbers that items and lists are made of, rising.
var edges = []int{math.MinInt, math.MinInt + 1, -1 << 40, -5, -1, 0, 1, 5, 1 << 31, 1 << 40, math.MaxInt - 1, math.MaxInt}

// plain is items as they came: a second way of keeping a queue.
type plain []Item

// first is the place of the item that comes first, -1 if there is none.
func (p plain) first() int {
	best := -1
	for i, x := range p {
		if best < 0 || x.At < p[best].At || x.At == p[best].At && x.ID < p[best].ID {
			best = i
		}
	}
	return best
}

func (p plain) next() (Item, bool) {
	if i := p.first(); i >= 0 {
		return p[i], true
	}
	return Item{}, false
}

func (p *plain) pop(now int) (Item, bool) {
	i := p.first()
	if i < 0 || (*p)[i].At > now {
		return Item{}, false
	}
	x := (*p)[i]
	*p = append((*p)[:i:i], (*p)[i+1:]...)
	return x, true
}

func (p *plain) drop(id int) int {
	var left plain
	for _, x := range *p {
		if x.ID != id {
			left = append(left, x)
		}
	}
	n := len(*p) - len(left)
	*p = left
	return n
}

func (p plain) list() []Item {
	left := slices.Clone(p)
	var l []Item
	for len(left) > 0 {
		x, _ := left.pop(math.MaxInt)
		l = append(l, x)
	}
	return l
}

// its makes items of pairs.
func its(n ...int) []Item {
	var l []Item
	for i := 0; i+1 < len(n); i += 2 {
		l = append(l, Item{At: n[i], ID: n[i+1]})
	}
	return l
}

// of is a queue to which the items were pushed.
func of(l []Item) *Queue {
	q := New()
	for _, x := range l {
		q.Push(x.At, x.ID)
	}
	return q
}

// hold holds what the queue tells against its items, in order.
func hold(t *testing.T, q *Queue, want []Item) {
	t.Helper()
	if l := q.List(); !slices.Equal(l, want) {
		t.Fatalf("List: %v, not %v", l, want)
	}
	if n := q.Len(); n != len(want) {
		t.Fatalf("Len: %d of %v", n, want)
	}
	x, ok := q.Next()
	if len(want) == 0 && (ok || x != Item{}) {
		t.Fatalf("Next of none: %v, %t", x, ok)
	}
	if len(want) > 0 && (!ok || x != want[0]) {
		t.Fatalf("Next of %v: %v, %t", want, x, ok)
	}
}

// drain holds the pops of a queue, whose items are then all taken, against its
// items in order.
func drain(t *testing.T, q *Queue, want []Item) {
	t.Helper()
	for i, w := range want {
		if x, ok := q.Pop(math.MaxInt); x != w || !ok {
			t.Fatalf("Pop %d of %v: %v, %t", i, want, x, ok)
		}
	}
	if x, ok := q.Pop(math.MaxInt); ok || x != (Item{}) {
		t.Fatalf("Pop behind all: %v, %t", x, ok)
	}
	hold(t, q, nil)
}

// orders calls f with each order of the list.
func orders(l []Item, f func([]Item)) {
	var from func(int)
	from = func(n int) {
		if n == len(l) {
			f(l)
			return
		}
		for i := n; i < len(l); i++ {
			l[n], l[i] = l[i], l[n]
			from(n + 1)
			l[n], l[i] = l[i], l[n]
		}
	}
	from(0)
}

func TestP11_1Example(t *testing.T) {
	q := of(its(5, 1, 3, 2, 3, 1))
	hold(t, q, its(3, 1, 3, 2, 5, 1))
	for i, want := range its(3, 1, 3, 2, 0, 0) {
		if x, ok := q.Pop(4); x != want || ok != (i < 2) {
			t.Errorf("Pop(4) %d: %v, %t", i, x, ok)
		}
	}
	hold(t, q, its(5, 1))
}

func TestP11_1None(t *testing.T) {
	q := New()
	hold(t, q, nil)
	hold(t, q.Copy(), nil)
	for _, n := range edges {
		if x, ok := q.Pop(n); ok || x != (Item{}) {
			t.Errorf("Pop(%d): %v, %t", n, x, ok)
		}
		if got := q.Drop(n); got != 0 {
			t.Errorf("Drop(%d): %d", n, got)
		}
	}
	hold(t, q, nil)
	q.Push(0, 0)
	hold(t, q, its(0, 0))
	if x, ok := q.Pop(0); !ok || x != (Item{}) {
		t.Errorf("Pop of 0 0: %v, %t", x, ok)
	}
	hold(t, q, nil)
}

// Two queues know nothing of each other.
func TestP11_1Two(t *testing.T) {
	a, b := New(), New()
	a.Push(1, 1)
	hold(t, b, nil)
	b.Push(2, 2)
	hold(t, a, its(1, 1))
	hold(t, b, its(2, 2))
}

// Whatever order items are pushed in, they are told in one order.
func TestP11_1Order(t *testing.T) {
	for _, want := range [][]Item{
		its(1, 1, 2, 2, 3, 3, 4, 4, 5, 5, 6, 6, 7, 7),
		its(1, 7, 2, 6, 3, 5, 4, 4, 5, 3, 6, 2, 7, 1),
		its(4, -3, 4, -2, 4, -1, 4, 0, 4, 1, 4, 2, 4, 3),
		its(1, 5, 1, 5, 1, 9, 2, 0, 2, 5, 2, 5, 2, 5),
		its(-2, 0, -1, 9, -1, 10, 0, -10, 0, -9, 0, 0, 1, -1),
		its(math.MinInt, math.MinInt, math.MinInt, 0, math.MinInt, math.MaxInt, 0, 0, math.MaxInt, math.MinInt, math.MaxInt, -1, math.MaxInt, math.MaxInt),
	} {
		orders(slices.Clone(want), func(l []Item) {
			q := of(l)
			hold(t, q, want)
			drain(t, q, want)
		})
	}
}

// Each list of up to six of four items, and each of up to four of nine.
func TestP11_1Each(t *testing.T) {
	each(t, its(1, 1, 1, 2, 2, 1, 2, 2), 6)
	each(t, its(math.MinInt, -1, math.MinInt, math.MaxInt, -1, math.MaxInt, 0, math.MinInt, 0, 0, 0, 1, 1, math.MinInt, math.MaxInt, math.MinInt, math.MaxInt, 0), 4)
}

func each(t *testing.T, kinds []Item, most int) {
	t.Helper()
	var with func([]Item)
	with = func(l []Item) {
		want := plain(l).list()
		q := of(l)
		hold(t, q, want)
		drain(t, q.Copy(), want)
		for _, x := range kinds {
			holdDrop(t, q, x.ID)
		}
		for now := range 4 {
			holdPop(t, q, now)
		}
		if len(l) < most {
			for _, x := range kinds {
				with(append(slices.Clone(l), x))
			}
		}
	}
	with(nil)
}

// holdDrop holds what a Drop leaves; the queue stays as it is.
func holdDrop(t *testing.T, q *Queue, id int) {
	t.Helper()
	p, o := plain(q.List()), q.Copy()
	if n, want := o.Drop(id), p.drop(id); n != want {
		t.Fatalf("Drop(%d) of %v: %d, not %d", id, q.List(), n, want)
	}
	hold(t, o, p.list())
	if n := o.Drop(id); n != 0 {
		t.Fatalf("Drop(%d) again: %d", id, n)
	}
	drain(t, o, p.list())
}

// holdPop holds all pops at one now; the queue stays as it is.
func holdPop(t *testing.T, q *Queue, now int) {
	t.Helper()
	p, o := plain(q.List()), q.Copy()
	for range 1 + len(p) {
		want, has := p.pop(now)
		if x, ok := o.Pop(now); x != want || ok != has {
			t.Fatalf("Pop(%d) of %v: %v, %t", now, q.List(), x, ok)
		}
		hold(t, o, p.list())
	}
}

// An item is due at its At, and not ahead of it.
func TestP11_1Due(t *testing.T) {
	for _, at := range edges {
		for _, now := range edges {
			q := of([]Item{{At: at, ID: 7}})
			x, ok := q.Pop(now)
			if ok != (at <= now) {
				t.Errorf("Pop(%d) of %d: %t", now, at, ok)
			}
			if ok {
				hold(t, q, nil)
			} else {
				hold(t, q, its(at, 7))
			}
			if want := (Item{At: at, ID: 7}); ok && x != want || !ok && x != (Item{}) {
				t.Errorf("Pop(%d) of %d: %v", now, at, x)
			}
		}
	}
	q := of(its(5, 1, 4, 9))
	for now, ok := range map[int]bool{3: false, 4: true} {
		if _, got := q.Copy().Pop(now); got != ok {
			t.Errorf("Pop(%d): %t", now, got)
		}
	}
}

// An ID is a number as each other, and its items go whatever their At.
func TestP11_1Drop(t *testing.T) {
	var all []Item
	for _, at := range edges {
		for _, id := range edges {
			all = append(all, Item{At: at, ID: id})
		}
	}
	for _, id := range edges {
		q := of(all)
		if n := q.Drop(id); n != len(edges) {
			t.Errorf("Drop(%d): %d", id, n)
		}
		want := plain(all)
		want.drop(id)
		hold(t, q, want.list())
		drain(t, q, want.list())
	}
	q := of(its(1, 4, 1, 4, 1, 4))
	if n := q.Drop(1); n != 0 {
		t.Errorf("Drop by an At: %d", n)
	}
	if n := q.Drop(4); n != 3 {
		t.Errorf("Drop of one thrice: %d", n)
	}
	hold(t, q, nil)
	q.Push(2, 4)
	hold(t, q, its(2, 4))
}

// Drop takes items from anywhere among the others, and leaves these in order.
func TestP11_1DropOrders(t *testing.T) {
	want := its(1, 1, 2, 0, 3, 2, 4, 1, 5, 0, 6, 2, 7, 1)
	orders(slices.Clone(want), func(l []Item) {
		for id := range 4 {
			holdDrop(t, of(l), id)
		}
	})
}

// Next takes nothing, and neither do List, Len and Copy.
func TestP11_1Asked(t *testing.T) {
	want := its(1, 3, 2, 2, 3, 1)
	q := of(its(3, 1, 2, 2, 1, 3))
	for range 5 {
		hold(t, q, want)
		hold(t, q.Copy(), want)
	}
	drain(t, q, want)
}

// Any acts, each answer held against the plain list's.
func TestP11_1Random(t *testing.T) {
	r := rand.New(rand.NewSource(111))
	for range 300 {
		q, p := New(), plain(nil)
		draw := drawer(r)
		for range 100 {
			act(t, r, q, &p, draw)
			hold(t, q, p.list())
		}
		drain(t, q, p.list())
	}
}

// drawer draws numbers of a few, or of the edges.
func drawer(r *rand.Rand) func() int {
	if r.Intn(4) == 0 {
		return func() int { return edges[r.Intn(len(edges))] }
	}
	most := 1 + r.Intn(20)
	return func() int { return r.Intn(most) - most/2 }
}

func act(t *testing.T, r *rand.Rand, q *Queue, p *plain, draw func() int) {
	t.Helper()
	switch r.Intn(9) {
	case 0, 1, 2:
		now := draw()
		want, has := p.pop(now)
		if x, ok := q.Pop(now); x != want || ok != has {
			t.Fatalf("Pop(%d): %v, %t, not %v, %t", now, x, ok, want, has)
		}
	case 3:
		id := draw()
		if n, want := q.Drop(id), p.drop(id); n != want {
			t.Fatalf("Drop(%d): %d, not %d", id, n, want)
		}
	case 4:
		want, has := p.next()
		if x, ok := q.Next(); x != want || ok != has {
			t.Fatalf("Next: %v, %t, not %v, %t", x, ok, want, has)
		}
	default:
		x := Item{At: draw(), ID: draw()}
		q.Push(x.At, x.ID)
		*p = append(*p, x)
	}
}

// Many items: nothing is gone through as a whole for each of them.
func TestP11_1Many(t *testing.T) {
	const many = 300000
	q := New()
	for i := range many {
		n := i * 7919 % many // each number once
		q.Push(n/3, n%3)
	}
	if n := q.Drop(1); n != many/3 || q.Len() != many-many/3 {
		t.Fatalf("Drop: %d, %d are left", n, q.Len())
	}
	l := q.List()
	for i := range many / 3 {
		for j, id := range []int{0, 2} {
			want := Item{At: i, ID: id}
			if x, ok := q.Pop(i); x != want || !ok || l[2*i+j] != want {
				t.Fatalf("Pop(%d): %v, %t, List: %v", i, x, ok, l[2*i+j])
			}
		}
		if x, ok := q.Pop(i); ok || x != (Item{}) {
			t.Fatalf("Pop(%d) ahead of time: %v, %t", i, x, ok)
		}
	}
	hold(t, q, nil)
}

func TestP11_2Known(t *testing.T) {
	for i, c := range []struct {
		l    [][]int
		want []int
	}{
		{nil, nil},
		{[][]int{}, nil},
		{[][]int{nil}, nil},
		{[][]int{{}, nil, {}}, nil},
		{[][]int{{1, 3}, {2, 3}}, []int{1, 2, 3}},
		{[][]int{{0}}, []int{0}},
		{[][]int{{7, 7, 7}}, []int{7}},
		{[][]int{{3}, {2}, {1}}, []int{1, 2, 3}},
		{[][]int{{3, 2, 1}}, []int{1, 2, 3}},
		{[][]int{{1, 2}, {}, {1, 2}, nil, {2, 1}}, []int{1, 2}},
		{[][]int{{5, -5, 0}, {4, -4}}, []int{-5, -4, 0, 4, 5}},
		{[][]int{{1}, {1, 1}, {2, 1}, {1, 2, 1}}, []int{1, 2}},
		{[][]int{{math.MaxInt, 0, math.MinInt}, {math.MinInt, math.MaxInt - 1, -1}}, []int{math.MinInt, -1, 0, math.MaxInt - 1, math.MaxInt}},
	} {
		if got := Merge(c.l); !slices.Equal(got, c.want) {
			t.Errorf("case %d: Merge(%v): %v", i, c.l, got)
		}
	}
}

// merged is a second way: each of the numbers that may come, if it is there.
func merged(l [][]int, among []int) []int {
	var all []int
	for _, n := range among {
		for _, list := range l {
			if slices.Contains(list, n) {
				all = append(all, n)
				break
			}
		}
	}
	return all
}

// Each three lists of up to two of three numbers.
func TestP11_2Each(t *testing.T) {
	among := []int{-4, 0, 9}
	lists := [][]int{nil}
	for _, a := range among {
		lists = append(lists, []int{a})
		for _, b := range among {
			lists = append(lists, []int{a, b})
		}
	}
	for _, a := range lists {
		for _, b := range lists {
			for _, c := range lists {
				l := [][]int{a, b, c}
				for n := range 4 {
					if got, want := Merge(l[:n]), merged(l[:n], among); !slices.Equal(got, want) {
						t.Fatalf("Merge(%v): %v, not %v", l[:n], got, want)
					}
				}
			}
		}
	}
}

func TestP11_2Random(t *testing.T) {
	r := rand.New(rand.NewSource(112))
	for i := range 3000 {
		among := edges
		if i%2 == 0 {
			among = nil
			for n := range 1 + r.Intn(60) {
				among = append(among, n-20)
			}
		}
		l := make([][]int, r.Intn(7))
		for i := range l {
			for range r.Intn(20) {
				l[i] = append(l[i], among[r.Intn(len(among))])
			}
			if r.Intn(2) == 0 {
				slices.Sort(l[i])
			}
		}
		if got, want := Merge(l), merged(l, among); !slices.Equal(got, want) {
			t.Fatalf("Merge(%v): %v, not %v", l, got, want)
		}
	}
}

func TestP11_2Many(t *testing.T) {
	l := make([][]int, 1000)
	for i := range 300000 {
		n := i * 7919 % 300000
		l[i%1000] = append(l[i%1000], n/2)
	}
	got := Merge(l)
	if len(got) != 150000 {
		t.Fatalf("%d numbers", len(got))
	}
	for i, n := range got {
		if i != n {
			t.Fatalf("%d at %d", n, i)
		}
	}
}

// spoil writes into all of a list's memory, its spare room too.
func spoil[T any](l []T, with T) {
	l = l[:cap(l)]
	for i := range l {
		l[i] = with
	}
}

// What is handed in is neither changed, nor is what lies behind it read.
func TestP11_3In(t *testing.T) {
	rows := [][]int{{9, 1, 9, 77, 78}, {3, 2, 79}, {1, 1, 1}, {5}}
	behind := [][]int{rows[0][:3], rows[1][:2], rows[2], rows[3][:0], {8}}
	in := behind[:4]
	if got := Merge(in); !slices.Equal(got, []int{1, 2, 3, 9}) {
		t.Errorf("Merge: %v", got)
	}
	for i, want := range [][]int{{9, 1, 9, 77, 78}, {3, 2, 79}, {1, 1, 1}, {5}} {
		if !slices.Equal(rows[i], want) {
			t.Errorf("handed in, row %d: %v", i, rows[i])
		}
	}
	for i, want := range [][]int{{9, 1, 9}, {3, 2}, {1, 1, 1}, {}, {8}} {
		if !slices.Equal(behind[i], want) {
			t.Errorf("handed in, list %d: %v", i, behind[i])
		}
	}
}

// What is answered by Merge is not the memory that was handed in, and no two
// answers share any.
func TestP11_3Merge(t *testing.T) {
	for _, in := range [][][]int{{{1}}, {{1, 2, 3}}, {{1, 2, 3}, nil}, {nil, {1, 2, 3}, {}}, {{1, 2}, {3, 4}}, {{3, 3, 3, 1}, {2, 2}}} {
		var before [][]int
		for _, list := range in {
			before = append(before, slices.Clone(list))
		}
		a, b := Merge(in), Merge(in)
		want := slices.Clone(b)
		spoil(a, 77)
		if !slices.Equal(b, want) {
			t.Errorf("Merge(%v) shows in another answer: %v", in, b)
		}
		for i := range in {
			if !slices.Equal(in[i], before[i]) {
				t.Errorf("written into the answer, list %d is %v", i, in[i])
			}
		}
		for _, list := range in {
			spoil(list, 78)
		}
		if !slices.Equal(b, want) {
			t.Errorf("written into what was handed in, the answer is %v", b)
		}
	}
}

// What is written into a list that was handed out shows nowhere else.
func TestP11_3List(t *testing.T) {
	for n := range 12 {
		q := New()
		for i := range n {
			q.Push(n-i, i)
		}
		want := slices.Clone(q.List())
		o := q.Copy()
		a, b := q.List(), q.List()
		spoil(a, Item{At: -7, ID: 77})
		if !slices.Equal(b, want) {
			t.Fatalf("in another list: %v", b)
		}
		hold(t, q, want)
		hold(t, o, want)
		q.Push(0, 0)
		o.Push(-1, 0)
		hold(t, q, append(its(0, 0), want...))
		hold(t, o, append(its(-1, 0), want...))
		if !slices.Equal(b, want) {
			t.Fatalf("pushed behind, in a list: %v", b)
		}
	}
}

// A list stays as it was, whatever is done to the queue later.
func TestP11_3Later(t *testing.T) {
	q := of(its(4, 4, 3, 3, 2, 2, 1, 1))
	want := its(1, 1, 2, 2, 3, 3, 4, 4)
	l := q.List()
	q.Pop(2)
	q.Drop(3)
	q.Push(0, 9)
	q.Push(9, 0)
	if !slices.Equal(l, want) {
		t.Errorf("%v", l)
	}
	hold(t, q, its(0, 9, 2, 2, 4, 4, 9, 0))
}

// A queue and its copy go apart, whichever of them is changed, and how.
func TestP11_3Copy(t *testing.T) {
	changes := []func(*Queue){
		func(q *Queue) {},
		func(q *Queue) { q.Push(0, 5) },
		func(q *Queue) { q.Push(99, 5) },
		func(q *Queue) { q.Pop(math.MaxInt) },
		func(q *Queue) { q.Drop(1) },
		func(q *Queue) { q.Drop(1); q.Push(50, 1); q.Push(60, 1) },
		func(q *Queue) { q.Pop(math.MaxInt); q.Push(70, 2) },
	}
	for n := range 12 {
		for _, one := range changes {
			for _, other := range changes {
				q := New()
				for j := range n {
					q.Push(20-j, j%3)
				}
				want := q.List()
				a, b := of(want), of(want)
				one(a)
				other(b)
				o := q.Copy()
				one(q)
				hold(t, o, want)
				other(o)
				hold(t, q, a.List())
				hold(t, o, b.List())
				drain(t, q, a.List())
				drain(t, o, b.List())
			}
		}
	}
}

// Pops tell what was pushed, each as often, and in order.
func TestP11_4(t *testing.T) {
	r := rand.New(rand.NewSource(114))
	for range 300 {
		draw := drawer(r)
		q, pushed, popped := New(), map[Item]int{}, map[Item]int{}
		for range r.Intn(200) {
			x := Item{At: draw(), ID: draw()}
			q.Push(x.At, x.ID)
			pushed[x]++
			if r.Intn(3) > 0 {
				continue
			}
			if y, ok := q.Pop(draw()); ok {
				popped[y]++
			}
		}
		last := Item{At: math.MinInt, ID: math.MinInt}
		for {
			x, ok := q.Pop(math.MaxInt)
			if !ok {
				break
			}
			if x.At < last.At || x.At == last.At && x.ID < last.ID {
				t.Fatalf("%v behind %v", x, last)
			}
			last = x
			popped[x]++
		}
		if q.Len() != 0 || len(pushed) != len(popped) {
			t.Fatalf("%d left, %d pushed, %d popped", q.Len(), len(pushed), len(popped))
		}
		for x, n := range pushed {
			if popped[x] != n {
				t.Fatalf("%v: pushed %d times, popped %d times", x, n, popped[x])
			}
		}
	}
}

// As time goes on each item is told once it is due, in order, and none ahead.
func TestP11_4Time(t *testing.T) {
	r := rand.New(rand.NewSource(1144))
	for range 200 {
		q, n := New(), 0
		for now := range 60 {
			for range r.Intn(4) {
				q.Push(now+r.Intn(12)-2, r.Intn(4))
				n++
			}
			last := Item{At: math.MinInt}
			for {
				x, ok := q.Pop(now)
				if !ok {
					break
				}
				n--
				if x.At > now || x.At < last.At || x.At == last.At && x.ID < last.ID {
					t.Fatalf("at %d: %v behind %v", now, x, last)
				}
				last = x
			}
			if x, ok := q.Next(); ok && x.At <= now || ok != (n > 0) || q.Len() != n {
				t.Fatalf("at %d: %v, %t, %d of %d left", now, x, ok, q.Len(), n)
			}
		}
	}
}

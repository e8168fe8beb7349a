package iv

import (
	"math"
	"math/rand"
	"slices"
	"testing"

	"convoker/api"
)

// edges are the ends that spans have on a board: a cell lies between two.
var edges = []int{math.MinInt, math.MinInt + 1, -1 << 40, -86400, -1, 0, 1, 5, 6, 1 << 31, 1 << 40, math.MaxInt - 1, math.MaxInt}

// board is whose each cell is, 0 nobody's: a second way of keeping a set.
type board []int

func newBoard() board { return make(board, len(edges)-1) }

// sp makes spans of pairs.
func sp(n ...int) []api.Span {
	var l []api.Span
	for i := 0; i+1 < len(n); i += 2 {
		l = append(l, api.Span{Lo: n[i], Hi: n[i+1]})
	}
	return l
}

// tg makes tagged spans of threes.
func tg(n ...int) []Tagged {
	var l []Tagged
	for i := 0; i+2 < len(n); i += 3 {
		l = append(l, Tagged{api.Span{Lo: n[i], Hi: n[i+1]}, n[i+2]})
	}
	return l
}

// painted is the cells of the spans, each of them 1.
func painted(l []api.Span) board {
	b := newBoard()
	for _, span := range l {
		for i := range b {
			if span.Lo <= edges[i] && edges[i+1] <= span.Hi {
				b[i] = 1
			}
		}
	}
	return b
}

// runs is the cells as spans: those beside each other of one owner are one.
func (b board) runs() []Tagged {
	var l []Tagged
	for i, owner := range b {
		if owner == 0 {
			continue
		}
		if i > 0 && b[i-1] == owner {
			l[len(l)-1].Span.Hi = edges[i+1]
		} else {
			l = append(l, Tagged{api.Span{Lo: edges[i], Hi: edges[i+1]}, owner})
		}
	}
	return l
}

func (b board) spans() []api.Span {
	var l []api.Span
	for _, t := range b.runs() {
		l = append(l, t.Span)
	}
	return l
}

func (b board) clash(l []api.Span, but int) (Tagged, bool) {
	for _, t := range b.runs() {
		own := painted([]api.Span{t.Span})
		for i, n := range painted(l) {
			if n == 1 && own[i] == 1 && t.Owner != but {
				return t, true
			}
		}
	}
	return Tagged{}, false
}

func (b board) add(l []api.Span, owner int) bool {
	cells := painted(l)
	if owner < 1 || slices.Contains(b, owner) {
		return false
	}
	for i, n := range cells {
		if n == 1 && b[i] != 0 {
			return false
		}
	}
	for i, n := range cells {
		if n == 1 {
			b[i] = owner
		}
	}
	return true
}

func (b board) remove(owner int) int {
	n := 0
	for _, t := range b.runs() {
		if t.Owner == owner {
			n++
		}
	}
	for i := range b {
		if b[i] == owner {
			b[i] = 0
		}
	}
	return n
}

func (b board) cut(lo, hi int) []api.Span {
	cells := painted(sp(lo, hi))
	for i := range cells {
		if b[i] == 0 {
			cells[i] = 0
		}
	}
	return cells.spans()
}

func (b board) owners() []int {
	var l []int
	for _, owner := range b {
		if owner != 0 {
			l = append(l, owner)
		}
	}
	slices.Sort(l)
	return slices.Compact(l)
}

// hold holds what the set keeps against the board.
func hold(t *testing.T, s *Set, b board) {
	t.Helper()
	if l := s.List(); !slices.Equal(l, b.runs()) || s.Len() != len(l) {
		t.Fatalf("List: %v, Len: %d, not %v", l, s.Len(), b.runs())
	}
	if l := s.Owners(); !slices.Equal(l, b.owners()) {
		t.Fatalf("Owners: %v, not %v", l, b.owners())
	}
}

// holdList holds the whole of a set against the spans that it should have.
func holdList(t *testing.T, s *Set, want []Tagged) {
	t.Helper()
	var owners []int
	for _, t := range want {
		owners = append(owners, t.Owner)
	}
	slices.Sort(owners)
	owners = slices.Compact(owners)
	if l := s.List(); !slices.Equal(l, want) || s.Len() != len(want) || !slices.Equal(s.Owners(), owners) {
		t.Fatalf("%v, %d, %v, not %v", l, s.Len(), s.Owners(), want)
	}
}

// holdClash holds Clash, for each but, against the board.
func holdClash(t *testing.T, s *Set, b board, l []api.Span, most int) {
	t.Helper()
	for but := -1; but <= most; but++ {
		got, ok := s.Clash(l, but)
		if want, has := b.clash(l, but); got != want || ok != has {
			t.Fatalf("Clash(%v, %d) of %v = %v, %t, not %v, %t", l, but, s.List(), got, ok, want, has)
		}
	}
}

// eachSpan calls f with each span between the first n edges, those that are
// none too.
func eachSpan(n int, f func(span api.Span)) {
	for _, lo := range edges[:n] {
		for _, hi := range edges[:n] {
			f(api.Span{Lo: lo, Hi: hi})
		}
	}
}

// some is at most n spans between edges, most of them short.
func some(r *rand.Rand, n int) []api.Span {
	var l []api.Span
	for range r.Intn(n + 1) {
		lo := r.Intn(len(edges))
		hi := min(lo+r.Intn(4), len(edges)-1)
		if r.Intn(8) == 0 {
			hi = r.Intn(len(edges))
		}
		l = append(l, api.Span{Lo: edges[lo], Hi: edges[hi]})
	}
	return l
}

// filled is the example that most tests begin with.
func filled(t *testing.T) *Set {
	t.Helper()
	s := New()
	if !s.Add(sp(20, 22, 10, 12), 2) || !s.Add(sp(0, 2, 1, 3), 1) || !s.Add(sp(12, 13, 3, 5), 7) {
		t.Fatal("Add")
	}
	holdList(t, s, tg(0, 3, 1, 3, 5, 7, 10, 12, 2, 12, 13, 7, 20, 22, 2))
	return s
}

func TestP10_1NormKnown(t *testing.T) {
	for i, c := range []struct{ l, want []api.Span }{
		{nil, nil},
		{[]api.Span{}, nil},
		{sp(0, 1), sp(0, 1)},
		{sp(1, 1), nil},
		{sp(2, 1), nil},
		{sp(0, 0, 5, 4), nil},
		{sp(0, 2, 1, 3), sp(0, 3)},
		{sp(1, 3, 0, 2), sp(0, 3)},
		{sp(0, 2, 2, 3), sp(0, 3)},
		{sp(0, 2, 3, 4), sp(0, 2, 3, 4)},
		{sp(3, 4, 0, 2), sp(0, 2, 3, 4)},
		{sp(0, 9, 1, 2), sp(0, 9)},
		{sp(0, 9, 1, 2, 3, 4, 8, 10), sp(0, 10)},
		{sp(0, 9, 0, 9, 0, 9), sp(0, 9)},
		{sp(4, 5, 4, 7, 4, 6), sp(4, 7)},
		{sp(0, 4, 6, 8, 4, 6), sp(0, 8)},
		{sp(-5, -3, -4, -1, 1, 2), sp(-5, -1, 1, 2)},
		// One that is none joins nothing.
		{sp(0, 2, 2, 2, 3, 5), sp(0, 2, 3, 5)},
		{sp(0, 2, 5, 1, 3, 5), sp(0, 2, 3, 5)},
		{sp(math.MinInt, math.MaxInt), sp(math.MinInt, math.MaxInt)},
		{sp(math.MaxInt, math.MinInt), nil},
		{sp(math.MinInt, math.MinInt, math.MaxInt, math.MaxInt), nil},
		{sp(math.MaxInt-1, math.MaxInt, math.MinInt, math.MinInt+1), sp(math.MinInt, math.MinInt+1, math.MaxInt-1, math.MaxInt)},
		{sp(0, math.MaxInt, math.MinInt, 0), sp(math.MinInt, math.MaxInt)},
		{sp(math.MinInt, -1, 0, math.MaxInt), sp(math.MinInt, -1, 0, math.MaxInt)},
	} {
		if got := Norm(c.l); !slices.Equal(got, c.want) {
			t.Errorf("case %d: Norm(%v) = %v, not %v", i, c.l, got, c.want)
		}
	}
}

func holdNorm(t *testing.T, l []api.Span) {
	t.Helper()
	if got, want := Norm(l), painted(l).spans(); !slices.Equal(got, want) {
		t.Fatalf("Norm(%v) = %v, not %v", l, got, want)
	}
}

// Every list of up to three spans between six edges, and random longer ones.
func TestP10_1NormAll(t *testing.T) {
	const n = 6
	eachSpan(n, func(a api.Span) {
		holdNorm(t, []api.Span{a})
		eachSpan(n, func(b api.Span) {
			holdNorm(t, []api.Span{a, b})
			eachSpan(n, func(c api.Span) { holdNorm(t, []api.Span{a, b, c}) })
		})
	})
	r := rand.New(rand.NewSource(101))
	for range 20000 {
		holdNorm(t, some(r, 12))
	}
}

// A long list, from front to back and shuffled.
func TestP10_1NormLong(t *testing.T) {
	const n = 20000
	var apart, joined []api.Span
	for i := range n {
		apart = append(apart, api.Span{Lo: 3 * i, Hi: 3*i + 2})
		joined = append(joined, api.Span{Lo: 3 * i, Hi: 3*i + 3})
	}
	r := rand.New(rand.NewSource(102))
	for range 3 {
		if got := Norm(joined); !slices.Equal(got, sp(0, 3*n)) {
			t.Fatalf("%d spans, not one", len(got))
		}
		got := Norm(apart)
		for i, span := range got {
			if span != (api.Span{Lo: 3 * i, Hi: 3*i + 2}) {
				t.Fatalf("at %d: %v", i, span)
			}
		}
		if len(got) != n {
			t.Fatalf("%d spans", len(got))
		}
		r.Shuffle(n, func(i, j int) { apart[i], apart[j], joined[i], joined[j] = apart[j], apart[i], joined[j], joined[i] })
	}
}

func TestP10_2AddKnown(t *testing.T) {
	for i, c := range []struct {
		l     []api.Span
		owner int
		added bool
		want  []Tagged // all behind it, if that is more
	}{
		{sp(30, 31), 3, true, tg(0, 3, 1, 3, 5, 7, 10, 12, 2, 12, 13, 7, 20, 22, 2, 30, 31, 3)},
		{sp(-2, -1), 3, true, tg(-2, -1, 3, 0, 3, 1, 3, 5, 7, 10, 12, 2, 12, 13, 7, 20, 22, 2)},
		// All the room between, touching both sides.
		{sp(5, 10, 13, 20), 3, true, tg(0, 3, 1, 3, 5, 7, 5, 10, 3, 10, 12, 2, 12, 13, 7, 13, 20, 3, 20, 22, 2)},
		{sp(22, 23, 6, 7, -1, 0, 7, 8), math.MaxInt, true, tg(-1, 0, math.MaxInt, 0, 3, 1, 3, 5, 7, 6, 8, math.MaxInt, 10, 12, 2, 12, 13, 7, 20, 22, 2, 22, 23, math.MaxInt)},
		{sp(math.MinInt, 0, 22, math.MaxInt), 3, true, tg(math.MinInt, 0, 3, 0, 3, 1, 3, 5, 7, 10, 12, 2, 12, 13, 7, 20, 22, 2, 22, math.MaxInt, 3)},
		// Spans that are none overlap nothing.
		{sp(1, 1, 30, 31, 4, 2), 3, true, tg(0, 3, 1, 3, 5, 7, 10, 12, 2, 12, 13, 7, 20, 22, 2, 30, 31, 3)},
		{nil, 3, true, nil},
		{[]api.Span{}, 3, true, nil},
		{sp(1, 1), 3, true, nil},
		{sp(9, 0, 21, 21), 3, true, nil},
		{nil, math.MaxInt, true, nil},

		{sp(30, 31), 0, false, nil},
		{sp(30, 31), -1, false, nil},
		{sp(30, 31), math.MinInt, false, nil},
		{nil, 0, false, nil},
		{sp(1, 1), -7, false, nil},
		{sp(30, 31), 1, false, nil},
		{sp(30, 31), 2, false, nil},
		{sp(30, 31), 7, false, nil},
		{nil, 7, false, nil},
		{sp(5, 5), 1, false, nil},
		{sp(0, 3), 1, false, nil},
		{sp(2, 3), 3, false, nil},
		{sp(0, 1), 3, false, nil},
		{sp(1, 2), 3, false, nil},
		{sp(-9, 1), 3, false, nil},
		{sp(21, 99), 3, false, nil},
		{sp(-9, 99), 3, false, nil},
		{sp(12, 13), 3, false, nil},
		{sp(5, 11), 3, false, nil},
		{sp(4, 10), 3, false, nil},
		// Together they overlap, or one of them alone does.
		{sp(5, 9, 8, 11), 3, false, nil},
		{sp(30, 31, 0, 1), 3, false, nil},
		{sp(-3, -2, 5, 6, 30, 31, 21, 23), 3, false, nil},
		{sp(math.MinInt, math.MaxInt), 3, false, nil},
	} {
		s := filled(t)
		before := s.List()
		if got := s.Add(c.l, c.owner); got != c.added {
			t.Errorf("case %d: Add(%v, %d) = %t", i, c.l, c.owner, got)
		}
		if c.want == nil {
			holdList(t, s, before)
		} else {
			holdList(t, s, c.want)
		}
	}
}

// An owner without spans may be added, as often as it likes.
func TestP10_2AddNothing(t *testing.T) {
	s := New()
	if !s.Add(nil, 5) || !s.Add(sp(7, 7), 5) || s.Remove(5) != 0 || !s.Add(sp(1, 2), 5) || s.Add(nil, 5) || s.Add(sp(3, 4), 5) {
		t.Errorf("%v", s.List())
	}
	holdList(t, s, tg(1, 2, 5))
	// A refused one has nothing either.
	if s.Add(sp(1, 2), 6) || s.Remove(6) != 0 || !s.Add(sp(2, 3), 6) {
		t.Errorf("%v", s.List())
	}
	holdList(t, s, tg(1, 2, 5, 2, 3, 6))
}

func TestP10_2RemoveKnown(t *testing.T) {
	for i, c := range []struct {
		owner, n int
		want     []Tagged
	}{
		{1, 1, tg(3, 5, 7, 10, 12, 2, 12, 13, 7, 20, 22, 2)},
		{2, 2, tg(0, 3, 1, 3, 5, 7, 12, 13, 7)},
		{7, 2, tg(0, 3, 1, 10, 12, 2, 20, 22, 2)},
		{0, 0, nil}, {-1, 0, nil}, {3, 0, nil}, {6, 0, nil}, {8, 0, nil}, {math.MinInt, 0, nil}, {math.MaxInt, 0, nil},
	} {
		s := filled(t)
		before := s.List()
		if n := s.Remove(c.owner); n != c.n {
			t.Errorf("case %d: Remove(%d) = %d", i, c.owner, n)
		}
		if c.want == nil {
			c.want = before
		}
		holdList(t, s, c.want)
		if n := s.Remove(c.owner); n != 0 {
			t.Errorf("case %d: Remove(%d) = %d, the second time", i, c.owner, n)
		}
		holdList(t, s, c.want)
	}
	s := filled(t)
	if s.Remove(7) != 2 || !s.Add(sp(4, 6), 7) || s.Remove(1) != 1 || s.Remove(7) != 1 || s.Remove(2) != 2 || s.Remove(2) != 0 {
		t.Errorf("%v", s.List())
	}
	holdList(t, s, nil)
	if New().Remove(1) != 0 {
		t.Error("Remove of none")
	}
	for _, owner := range []int{1, 2, 1 << 31, 1 << 32, 1<<32 + 1, math.MaxInt} {
		s := New()
		if !s.Add(sp(0, 1, 2, 3, 4, 5), owner) || s.Remove(owner-1) != 0 || s.Remove(-owner) != 0 || s.Remove(owner) != 3 {
			t.Errorf("owner %d: %v", owner, s.List())
		}
		holdList(t, s, nil)
	}
}

func TestP10_2ClashKnown(t *testing.T) {
	s := filled(t)
	for i, c := range []struct {
		l    []api.Span
		but  int
		want []Tagged
	}{
		{sp(2, 4), 0, tg(0, 3, 1)},
		{sp(2, 4), 1, tg(3, 5, 7)},
		{sp(2, 3), 1, nil},
		{sp(2, 4), 7, tg(0, 3, 1)},
		{sp(3, 4), 0, tg(3, 5, 7)},
		{sp(0, 99), 0, tg(0, 3, 1)},
		{sp(0, 99), 1, tg(3, 5, 7)},
		{sp(3, 99), 7, tg(10, 12, 2)},
		{sp(12, 99), 7, tg(20, 22, 2)},
		{sp(10, 99), 2, tg(12, 13, 7)},
		{sp(13, 99), 2, nil},
		{sp(20, 21), 0, tg(20, 22, 2)},
		{sp(21, 22), -2, tg(20, 22, 2)},
		{sp(21, 22), 9, tg(20, 22, 2)},
		{sp(21, 22), math.MaxInt, tg(20, 22, 2)},
		{sp(21, 22), math.MinInt, tg(20, 22, 2)},
		{sp(math.MinInt, math.MaxInt), 0, tg(0, 3, 1)},
		{sp(math.MinInt, 1), 0, tg(0, 3, 1)},
		{sp(21, math.MaxInt), 0, tg(20, 22, 2)},
		// Not in the order of the list.
		{sp(21, 30, 4, 11), 0, tg(3, 5, 7)},
		{sp(21, 30, 4, 11), 7, tg(10, 12, 2)},
		{sp(21, 30, 12, 13), 0, tg(12, 13, 7)},
		{sp(30, 40, 21, 22, 50, 60), 0, tg(20, 22, 2)},
		{sp(5, 10, 13, 20, 11, 11), 0, nil},
		{sp(5, 9, 8, 11), 0, tg(10, 12, 2)},
		// Touching is not overlapping, and none overlaps nothing.
		{sp(5, 10), 0, nil},
		{sp(13, 20), 0, nil},
		{sp(-5, 0), 0, nil},
		{sp(22, 30), 0, nil},
		{sp(math.MinInt, 0, 22, math.MaxInt), 0, nil},
		{sp(2, 2), 0, nil},
		{sp(5, 1), 0, nil},
		{sp(math.MaxInt, math.MinInt), 0, nil},
		{nil, 0, nil},
		{[]api.Span{}, 0, nil},
	} {
		var want Tagged
		if c.want != nil {
			want = c.want[0]
		}
		if got, ok := s.Clash(c.l, c.but); got != want || ok != (c.want != nil) {
			t.Errorf("case %d: Clash(%v, %d) = %v, %t, not %v", i, c.l, c.but, got, ok, c.want)
		}
	}
	if got, ok := New().Clash(sp(0, 9), 0); ok || got != (Tagged{}) {
		t.Errorf("of none: %v", got)
	}
}

// The chapter's examples.
func TestP10_2Examples(t *testing.T) {
	s := New()
	if !s.Add(sp(0, 2, 1, 3), 1) || !slices.Equal(s.List(), tg(0, 3, 1)) || s.Add(sp(2, 4), 2) {
		t.Errorf("%v", s.List())
	}
	got, ok := s.Clash(sp(2, 4), 0)
	if got != (tg(0, 3, 1)[0]) || !ok {
		t.Errorf("Clash: %v, %t", got, ok)
	}
	got, ok = s.Clash(sp(2, 4), 1)
	if got != (Tagged{}) || ok {
		t.Errorf("Clash: %v, %t", got, ok)
	}
	if l := s.Cut(1, 9); !slices.Equal(l, sp(1, 3)) {
		t.Errorf("Cut: %v", l)
	}
}

// Random sets against boards, each question asked behind each act.
func TestP10_2Random(t *testing.T) {
	const owners = 6
	r := rand.New(rand.NewSource(103))
	for range 60 {
		s, b := New(), newBoard()
		for range 40 {
			owner := r.Intn(owners+2) - 1
			if r.Intn(3) == 0 {
				if got, want := s.Remove(owner), b.remove(owner); got != want {
					t.Fatalf("Remove(%d) = %d, not %d", owner, got, want)
				}
			} else {
				l, before := some(r, 4), s.List()
				if got, want := s.Add(l, owner), b.add(l, owner); got != want {
					t.Fatalf("Add(%v, %d) to %v = %t", l, owner, before, got)
				}
			}
			hold(t, s, b)
			for range 4 {
				holdClash(t, s, b, some(r, 5), owners+1)
			}
			eachSpan(len(edges), func(c api.Span) {
				if got, want := s.Cut(c.Lo, c.Hi), b.cut(c.Lo, c.Hi); !slices.Equal(got, want) {
					t.Fatalf("Cut(%d, %d) of %v = %v, not %v", c.Lo, c.Hi, s.List(), got, want)
				}
			})
		}
		eachSpan(len(edges), func(c api.Span) { holdClash(t, s, b, []api.Span{c}, owners+1) })
	}
}

// Every pair of spans for the first owner, every one for the second.
func TestP10_2AddAll(t *testing.T) {
	const n = 6
	eachSpan(n, func(x api.Span) {
		eachSpan(n, func(y api.Span) {
			eachSpan(n, func(z api.Span) {
				s, b := New(), newBoard()
				first, second := []api.Span{x, y}, []api.Span{z}
				b.add(first, 2)
				if !s.Add(first, 2) || s.Add(second, 1) != b.add(second, 1) {
					t.Fatalf("Add(%v), Add(%v): %v", first, second, s.List())
				}
				hold(t, s, b)
			})
		})
	})
}

// Many owners with many spans each, in all orders.
func TestP10_3Long(t *testing.T) {
	const owners, each = 300, 100
	r := rand.New(rand.NewSource(104))
	s := New()
	var all []Tagged
	for i := range owners * each {
		all = append(all, Tagged{api.Span{Lo: 2 * i, Hi: 2*i + 1}, 1 + i*7%owners})
	}
	for _, k := range r.Perm(owners) {
		var l []api.Span
		for _, x := range all {
			if x.Owner == k+1 {
				l = append(l, x.Span)
			}
		}
		r.Shuffle(len(l), func(i, j int) { l[i], l[j] = l[j], l[i] })
		if len(l) != each || !s.Add(l, k+1) {
			t.Fatalf("Add of %d spans, %d", len(l), k+1)
		}
	}
	holdList(t, s, all)
	for i := range owners * each {
		got, ok := s.Clash(sp(2*i, 2*i+1), 0)
		_, room := s.Clash(sp(2*i+1, 2*i+2), 0)
		if got != all[i] || !ok || room {
			t.Fatalf("Clash at %d: %v, %t, %t", i, got, ok, room)
		}
		if l := s.Cut(2*i, 2*i+2); !slices.Equal(l, sp(2*i, 2*i+1)) {
			t.Fatalf("Cut at %d: %v", i, l)
		}
	}
	for _, k := range r.Perm(owners)[:owners/2] {
		if n := s.Remove(k + 1); n != each {
			t.Fatalf("Remove(%d) = %d", k+1, n)
		}
		all = slices.DeleteFunc(all, func(x Tagged) bool { return x.Owner == k+1 })
	}
	holdList(t, s, all)
}

func TestP10_3CutKnown(t *testing.T) {
	s := filled(t)
	for i, c := range []struct {
		lo, hi int
		want   []api.Span
	}{
		{math.MinInt, math.MaxInt, sp(0, 5, 10, 13, 20, 22)},
		{0, 22, sp(0, 5, 10, 13, 20, 22)},
		{1, 21, sp(1, 5, 10, 13, 20, 21)},
		{1, 9, sp(1, 5)},
		{1, 2, sp(1, 2)},
		{3, 4, sp(3, 4)},
		{2, 4, sp(2, 4)},
		{12, 21, sp(12, 13, 20, 21)},
		{4, 11, sp(4, 5, 10, 11)},
		{5, 10, nil}, {13, 20, nil}, {-9, 0, nil}, {22, 99, nil}, {math.MinInt, 0, nil}, {22, math.MaxInt, nil},
		{1, 1, nil}, {9, 1, nil}, {2, 1, nil}, {99, -99, nil}, {21, 11, nil}, {math.MaxInt, math.MinInt, nil}, {math.MaxInt, math.MaxInt, nil}, {math.MinInt, math.MinInt, nil},
	} {
		if got := s.Cut(c.lo, c.hi); !slices.Equal(got, c.want) {
			t.Errorf("case %d: Cut(%d, %d) = %v, not %v", i, c.lo, c.hi, got, c.want)
		}
	}
	if l := New().Cut(math.MinInt, math.MaxInt); len(l) != 0 {
		t.Errorf("of none: %v", l)
	}
	whole := New()
	if !whole.Add(sp(math.MinInt, math.MaxInt), 1) || !slices.Equal(whole.Cut(-5, 5), sp(-5, 5)) || !slices.Equal(whole.Cut(math.MinInt, math.MaxInt), sp(math.MinInt, math.MaxInt)) || len(whole.Cut(5, -5)) != 0 {
		t.Errorf("of all: %v", whole.Cut(-5, 5))
	}
}

func TestP10_3Lists(t *testing.T) {
	holdList(t, New(), nil)
	holdList(t, New().Copy(), nil)
	s := New()
	for i, owner := range []int{9, 3, math.MaxInt, 1, 4} {
		if !s.Add(sp(100-i, 101-i, i, i+1), owner) {
			t.Fatal("Add")
		}
	}
	// Those that touch stay apart, where they are of two owners.
	holdList(t, s, tg(0, 1, 9, 1, 2, 3, 2, 3, math.MaxInt, 3, 4, 1, 4, 5, 4, 96, 97, 4, 97, 98, 1, 98, 99, math.MaxInt, 99, 100, 3, 100, 101, 9))
	if l := s.Owners(); !slices.Equal(l, []int{1, 3, 4, 9, math.MaxInt}) {
		t.Errorf("Owners: %v", l)
	}
	holdList(t, s.Copy(), s.List())
	if a, b := New(), New(); !a.Add(sp(0, 1), 1) || b.Len() != 0 {
		t.Error("New: two sets are one")
	}
}

// A copy and what it was made of go apart, whichever of them changes.
func TestP10_3Copy(t *testing.T) {
	acts := []func(s *Set){
		func(s *Set) { s.Add(sp(6, 7), 3) },
		func(s *Set) { s.Add(sp(50, 60), 9) },
		func(s *Set) { s.Add(sp(-9, -8, 14, 15, 70, 80), 4) },
		func(s *Set) { s.Remove(1) },
		func(s *Set) { s.Remove(2) },
		func(s *Set) { s.Remove(7) },
	}
	for _, first := range acts {
		for _, second := range acts {
			s := filled(t)
			first(s)
			o := s.Copy()
			before := s.List()
			holdList(t, o, before)
			second(s)
			holdList(t, o, before)
			s = o.Copy()
			second(o)
			holdList(t, s, before)
			first(s)
			after := o.List()
			first(s.Copy())
			holdList(t, o, after)
		}
	}
	// Both grow, in room that they must not share.
	s := New()
	for i := range 100 {
		s.Add(sp(3*i, 3*i+1), 3*i+3)
		o := s.Copy()
		if !o.Add(sp(3*i+1, 3*i+2), 3*i+4) || !s.Add(sp(3*i+2, 3*i+3), 3*i+5) {
			t.Fatalf("Add at %d", i)
		}
		if n := 2*i + 2; o.Len() != n || s.Len() != n || o.List()[n-1].Owner != 3*i+4 || s.List()[n-1].Owner != 3*i+5 || o.Owners()[n-1] != 3*i+4 || s.Owners()[n-1] != 3*i+5 {
			t.Fatalf("at %d: %v, %v", i, s.List(), o.List())
		}
	}
}

// Neither the lists that are handed in nor what lies behind them changes.
func TestP10_4In(t *testing.T) {
	room := sp(20, 25, 4, 4, 30, 31, 24, 26, 9, 8, -3, -2, 40, 41)
	for n := range len(room) {
		in := slices.Clone(room)
		s := filled(t)
		if got, want := Norm(in[:n]), Norm(slices.Clip(slices.Clone(in[:n]))); !slices.Equal(got, want) {
			t.Fatalf("Norm of %d of %v: %v", n, room, got)
		}
		s.Clash(in[:n], 0)
		s.Clash(in[:n], 2)
		s.Add(in[:n], 3)
		s.Remove(2)
		s.Add(in[:n], 4)
		s.Remove(3)
		s.Remove(4)
		if !slices.Equal(in, room) {
			t.Fatalf("%d of %v: %v", n, room, in)
		}
	}
	for _, l := range [][]api.Span{sp(30, 31), sp(30, 31, 40, 41), sp(40, 41, 30, 31, 31, 32)} {
		s := New()
		if !s.Add(l, 1) {
			t.Fatal("Add")
		}
		want := s.List()
		for i := range l {
			l[i] = api.Span{Lo: -7, Hi: 99}
		}
		holdList(t, s, want)
	}
}

// spoil writes into all of a list's memory, spare room too.
func spoil[T any](l []T, with T) {
	l = l[:cap(l)]
	for i := range l {
		l[i] = with
	}
}

// What is written into a list that was handed out shows nowhere else.
func TestP10_4Out(t *testing.T) {
	for _, in := range [][]api.Span{sp(0, 1), sp(0, 1, 2, 3), sp(2, 3, 1, 2, 9, 10), sp(0, 9, 5, 5)} {
		want := slices.Clone(in)
		spoil(Norm(in), api.Span{Lo: 77, Hi: 78})
		a, b := Norm(in), Norm(in)
		before := slices.Clone(b)
		spoil(a, api.Span{Lo: 77, Hi: 78})
		if !slices.Equal(in, want) || !slices.Equal(b, before) {
			t.Errorf("Norm: %v, %v", in, b)
		}
	}
	bad := Tagged{api.Span{Lo: 77, Hi: 78}, 79}
	s := filled(t)
	want := s.List()
	// Behind each act, lest its spare room be handed out.
	for _, act := range []func(){func() {}, func() { s.Add(sp(30, 31), 5) }, func() { s.Remove(7) }, func() { s.Add(sp(3, 5, 12, 13), 7) }, func() { s.Remove(5) }} {
		act()
		list, owners, cut := s.List(), s.Owners(), s.Cut(1, 21)
		keptList, keptOwners, keptCut := slices.Clone(list), slices.Clone(owners), slices.Clone(cut)
		spoil(s.List(), bad)
		spoil(s.Owners(), 79)
		spoil(s.Cut(1, 21), bad.Span)
		if !slices.Equal(list, keptList) || !slices.Equal(owners, keptOwners) || !slices.Equal(cut, keptCut) {
			t.Fatalf("%v, %v, %v", list, owners, cut)
		}
		holdList(t, s, keptList)
		if l := s.Cut(1, 21); !slices.Equal(l, keptCut) {
			t.Fatalf("Cut: %v", l)
		}
	}
	holdList(t, s, want)
}

// No two overlap, a clash is what Add refuses, and removed all is as it was.
func TestP10_5Random(t *testing.T) {
	r := rand.New(rand.NewSource(105))
	for range 40 {
		s := New()
		for range 100 {
			owner := 1 + r.Intn(15)
			if r.Intn(3) == 0 {
				s.Remove(owner)
				continue
			}
			l, before, had := near(r), s.List(), slices.Contains(s.Owners(), owner)
			x, clashes := s.Clash(l, owner)
			added := s.Add(l, owner)
			if !had && added == clashes || had && added {
				t.Fatalf("Add(%v, %d) to %v = %t, Clash: %v, %t", l, owner, before, added, x, clashes)
			}
			if clashes && (!slices.Contains(before, x) || x.Owner == owner) {
				t.Fatalf("Clash of %v: %v", before, x)
			}
			if added {
				o := s.Copy()
				if n := o.Remove(owner); n != len(Norm(l)) {
					t.Fatalf("Remove: %d of %v", n, l)
				}
				holdList(t, o, before)
			} else {
				holdList(t, s, before)
			}
			holdApart(t, s)
		}
	}
}

// near is up to four spans, most of them short, within 300 seconds.
func near(r *rand.Rand) []api.Span {
	var l []api.Span
	for range r.Intn(5) {
		lo := r.Intn(300)
		l = append(l, api.Span{Lo: lo, Hi: lo + r.Intn(14) - 2})
	}
	return l
}

// holdApart holds every two spans against each other.
func holdApart(t *testing.T, s *Set) {
	t.Helper()
	l := s.List()
	for i, a := range l {
		if a.Span.Hi <= a.Span.Lo {
			t.Fatalf("none: %v", a)
		}
		for _, b := range l[i+1:] {
			if a.Span.Lo < b.Span.Hi && b.Span.Lo < a.Span.Hi {
				t.Fatalf("%v overlaps %v", a, b)
			}
		}
	}
}

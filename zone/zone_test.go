package zone

import (
	"math"
	"math/rand"
	"slices"
	"sort"
	"testing"

	"convoker/api"
	"convoker/stamp"
)

const (
	first = -62135596800 // 0001-01-01T00:00:00
	last  = 253402300799 // 9999-12-31T23:59:59
	lowL  = -62104060800 // 0002-01-01T00:00:00
	highL = 253370764799 // 9998-12-31T23:59:59
)

// far holds numbers that are no moment, and no field of a zone.
var far = []int{math.MinInt, math.MinInt + 1, math.MinInt + 64800, math.MinInt + 200000, -1 << 40, 1 << 40, math.MaxInt - 200000, math.MaxInt - 64800, math.MaxInt - 1, math.MaxInt}

// outside holds what is none of lo to hi.
func outside(lo, hi int) []int {
	return append([]int{lo - 1, lo - 2, hi + 1, hi + 2}, far...)
}

// at is the moment that the text writes.
func at(s string) int {
	n, e := stamp.Parse(s)
	if e != api.OK {
		panic(s)
	}
	return n
}

// middle is the zone of the chapter's example.
func middle() api.Zone {
	return api.Zone{Base: 3600, From: 1996, Years: []api.Yearly{{Month: 3, Nth: 5, Wday: 6, Sec: 3600, Off: 7200}, {Month: 10, Nth: 5, Wday: 6, Sec: 3600, Off: 3600}}}
}

// yearly is a zone that has nothing but yearly shifts.
func yearly(from int, a, b api.Yearly) api.Zone {
	return api.Zone{Base: 1800, From: from, Years: []api.Yearly{a, b}}
}

// shifted is a zone that has nothing but Shifts.
func shifted(base int, all ...api.Shift) api.Zone {
	return api.Zone{Base: base, Shifts: all}
}

// row is n shifts, as near to each other as may be, between two offsets.
func row(from, n, a, b int) []api.Shift {
	var all []api.Shift
	for i := range n {
		all = append(all, api.Shift{At: from + i*200000, Off: []int{a, b}[i%2]})
	}
	return all
}

// right holds zones that may be, with the edges that the chapter names.
func right() []api.Zone {
	wide := []api.Yearly{{Month: 3, Nth: 1, Wday: 0, Sec: 0, Off: 64800}, {Month: 5, Nth: 5, Wday: 6, Sec: 86399, Off: -64800}}
	ends := []api.Yearly{{Month: 2, Nth: 1, Wday: 0, Sec: 0, Off: 64800}, {Month: 12, Nth: 5, Wday: 6, Sec: 86399, Off: -64800}}
	both := middle()
	both.Shifts = []api.Shift{{At: -1 << 31, Off: 900}, {At: 0, Off: 7200}, {At: 200000, Off: 3600}, {At: 820454400 - 200000, Off: -3600}}
	full := middle()
	full.Shifts, full.From = row(0, 64, -64800, 64800), 1971
	return []api.Zone{
		{}, {Base: 3600}, {Base: -64800}, {Base: 64800}, {Shifts: []api.Shift{}, Years: []api.Yearly{}},
		middle(), both, full,
		{Base: -64800, From: 1, Years: wide}, {Base: 64800, From: 2, Years: wide}, {From: 1996, Years: ends}, {From: 9998, Years: ends}, {From: 9999, Years: wide},
		yearly(1, api.Yearly{Month: 1, Nth: 1, Wday: 0, Sec: 0, Off: 3600}, api.Yearly{Month: 11, Nth: 4, Wday: 3, Sec: 43200, Off: -3600}),
		yearly(1900, api.Yearly{Month: 2, Nth: 5, Wday: 5, Sec: 1, Off: -900}, api.Yearly{Month: 4, Nth: 2, Wday: 1, Sec: 86398, Off: -901}),
		yearly(1970, api.Yearly{Month: 4, Nth: 1, Wday: 6, Sec: 57600, Off: 36000}, api.Yearly{Month: 10, Nth: 3, Wday: 6, Sec: 57600, Off: 39600}),
		yearly(2000, api.Yearly{Month: 6, Nth: 3, Wday: 2, Sec: 5, Off: 1800}, api.Yearly{Month: 8, Nth: 4, Wday: 4, Sec: 6, Off: 1800}),
		shifted(-64800, row(1000000, 64, 64800, -64800)...),
		shifted(64800, row(1000000, 64, -64800, 64800)...),
		shifted(0, row(-3000000, 9, 3600, 3600)...),
		shifted(3600, api.Shift{At: first, Off: -64800}, api.Shift{At: last, Off: 64800}),
		shifted(-1, api.Shift{At: lowL - 1, Off: 64800}, api.Shift{At: lowL + 199999, Off: -64800}, api.Shift{At: highL - 199999, Off: 64800}, api.Shift{At: highL + 1, Off: -64800}),
		shifted(64800, api.Shift{At: lowL - 64800, Off: -64800}, api.Shift{At: highL - 64800, Off: -64799}, api.Shift{At: highL + 200000, Off: 64800}),
		shifted(0, api.Shift{At: lowL + 64800, Off: -64800}, api.Shift{At: highL + 64800, Off: 64800}),
	}
}

// some is a zone that may be, made of random numbers.
func some(r *rand.Rand) api.Zone {
	off := func() int {
		switch r.Intn(4) {
		case 0:
			return []int{-64800, 64800, 0}[r.Intn(3)]
		case 1:
			return (r.Intn(37) - 18) * 3600
		}
		return r.Intn(129601) - 64800
	}
	z := api.Zone{Base: off()}
	u := at("18000101T000000") + r.Intn(1<<32)
	for range r.Intn(6) {
		z.Shifts = append(z.Shifts, api.Shift{At: u, Off: off()})
		u += 200000 + r.Intn(3)*r.Intn(1<<26)
	}
	if r.Intn(3) > 0 {
		z.From = 2010 + r.Intn(50)
		a := 1 + r.Intn(10)
		b := min(12, a+2+r.Intn(9))
		for _, m := range []int{a, b} {
			z.Years = append(z.Years, api.Yearly{Month: m, Nth: 1 + r.Intn(5), Wday: r.Intn(7), Sec: r.Intn(86400), Off: off()})
		}
	}
	return z
}

// months holds the number of the first day of each month of the years 1 to
// 9999, and of the month after them, counted from the first one on.
func months() []int {
	n := -719162
	out := []int{n}
	for y := 1; y <= 9999; y++ {
		for m, days := range []int{31, 28, 31, 30, 31, 30, 31, 31, 30, 31, 30, 31} {
			if m == 1 && y%4 == 0 && (y%100 != 0 || y%400 == 0) {
				days++
			}
			n += days
			out = append(out, n)
		}
	}
	return out
}

// all is every shift of the zone, as the chapter's words say: each day of the
// month is asked whether it is of that weekday.
func all(z api.Zone, begins []int) []api.Shift {
	out := slices.Clone(z.Shifts)
	if len(z.Years) == 0 {
		return out
	}
	for y := z.From; y <= 9999; y++ {
		for _, r := range z.Years {
			i := (y-1)*12 + r.Month - 1
			day, seen := 0, 0
			for n := begins[i]; n < begins[i+1] && seen < r.Nth; n++ {
				if (n+719162)%7 == r.Wday { // 0001-01-01 was a Monday
					day, seen = n, seen+1
				}
			}
			out = append(out, api.Shift{At: day*86400 + r.Sec, Off: r.Off})
		}
	}
	return out
}

// place is how many of the shifts are not later than u.
func place(shifts []api.Shift, u int) int {
	return sort.Search(len(shifts), func(i int) bool { return shifts[i].At > u })
}

// off is the offset behind the first n shifts.
func off(z api.Zone, shifts []api.Shift, n int) int {
	if n == 0 {
		return z.Base
	}
	return shifts[n-1].Off
}

// holdMoment holds what the zone answers of the moment against its shifts.
func holdMoment(t *testing.T, z api.Zone, shifts []api.Shift, u int) {
	t.Helper()
	n := place(shifts, u)
	want := off(z, shifts, n)
	if got := Offset(z, u); got != want {
		t.Fatalf("Offset(%+v, %d) = %d, not %d", z, u, got, want)
	}
	if got := Local(z, u); got != u+want {
		t.Fatalf("Local(%+v, %d) = %d, not %d", z, u, got, u+want)
	}
	var ahead, next api.Shift
	if n > 0 {
		ahead = shifts[n-1]
	}
	if n < len(shifts) {
		next = shifts[n]
	}
	if got, ok := Before(z, u); got != ahead || ok != (n > 0) {
		t.Fatalf("Before(%+v, %d) = %+v, %t, not %+v", z, u, got, ok, ahead)
	}
	if got, ok := After(z, u); got != next || ok != (n < len(shifts)) {
		t.Fatalf("After(%+v, %d) = %+v, %t, not %+v", z, u, got, ok, next)
	}
}

// leastUTC is the chapter's word for UTC: of each stretch between two shifts
// the moment that has the local time, if it lies in it; else the gap's shift.
// The second answer is how long the gap is, 0 where there is none.
func leastUTC(t *testing.T, z api.Zone, shifts []api.Shift, l int) (int, int) {
	t.Helper()
	lo, hi := place(shifts, l-300000), place(shifts, l+300000)
	for n := lo; n <= hi; n++ {
		u := l - off(z, shifts, n)
		if place(shifts, u) == n {
			return u, 0
		}
	}
	u, gap, found := 0, 0, 0
	for n := lo; n < hi; n++ {
		o, s := off(z, shifts, n), shifts[n]
		if s.At+o <= l && l < s.At+s.Off {
			u, gap, found = l-o, s.Off-o, found+1
		}
	}
	if found != 1 {
		t.Fatalf("%+v: %d shifts make a gap at %d", z, found, l)
	}
	return u, gap
}

// holdLocal holds UTC of the local time, and Local of that.
func holdLocal(t *testing.T, z api.Zone, shifts []api.Shift, l int) {
	t.Helper()
	if l < lowL || l > highL {
		if got := UTC(z, l); got != 0 {
			t.Fatalf("UTC(%+v, %d) = %d, not 0", z, l, got)
		}
		return
	}
	u, gap := leastUTC(t, z, shifts, l)
	got := UTC(z, l)
	if got != u {
		t.Fatalf("UTC(%+v, %d) = %d, not %d", z, l, got, u)
	}
	if back := Local(z, got); back != l+gap {
		t.Fatalf("Local(%+v, %d) = %d, not %d", z, got, back, l+gap)
	}
}

// holdBack holds that UTC of the moment's local time is it, or an earlier one
// that has the same local time.
func holdBack(t *testing.T, z api.Zone, u int) {
	t.Helper()
	l := Local(z, u)
	if l < lowL || l > highL {
		return
	}
	if b := UTC(z, l); b > u || Local(z, b) != l {
		t.Fatalf("%+v: UTC of %d, Local of %d, is %d", z, l, u, b)
	}
}

// around holds all promises at a shift: at it, and where local times begin or
// cease to be doubled or left out.
func around(t *testing.T, z api.Zone, shifts []api.Shift, n int) {
	t.Helper()
	s := shifts[n]
	o := off(z, shifts, n)
	for _, by := range []int{-129600, -86400, -3600, -1, 0, 1, 3600, 86400, 129600} {
		if u := s.At + by; stamp.May(u) {
			holdMoment(t, z, shifts, u)
			holdBack(t, z, u)
		}
	}
	for _, l := range []int{s.At, s.At + o, s.At + s.Off, s.At + (o+s.Off)/2} {
		for _, by := range []int{-129600, -1, 0, 1, 129600} {
			holdLocal(t, z, shifts, l+by)
		}
	}
}

func TestP3_1Example(t *testing.T) {
	z := middle()
	for _, c := range []struct {
		u, local string
		off      int
	}{
		{"20260329T005959", "20260329T015959", 3600}, {"20260329T010000", "20260329T030000", 7200}, {"20260329T010001", "20260329T030001", 7200},
		{"20261025T005959", "20261025T025959", 7200}, {"20261025T010000", "20261025T020000", 3600},
		{"19960331T005959", "19960331T015959", 3600}, {"19960331T010000", "19960331T030000", 7200}, {"19950701T000000", "19950701T010000", 3600},
		{"00010101T000000", "00010101T010000", 3600}, {"99990601T000000", "99990601T020000", 7200}, {"99991231T225959", "99991231T235959", 3600},
	} {
		u := at(c.u)
		if got := Offset(z, u); got != c.off {
			t.Errorf("Offset at %s: %d", c.u, got)
		}
		if got := Local(z, u); got != at(c.local) {
			t.Errorf("Local at %s: %d, not %s", c.u, got, c.local)
		}
	}
	// A local time may lie beyond the years.
	if got := Local(z, last); got != last+3600 {
		t.Errorf("Local(%d) = %d", last, got)
	}
	for _, c := range []struct {
		u, ahead, next string
		on, off        int
	}{
		{"20260701T000000", "20260329T010000", "20261025T010000", 7200, 3600}, {"20260329T010000", "20260329T010000", "20261025T010000", 7200, 3600},
		{"20260329T005959", "20251026T010000", "20260329T010000", 3600, 7200}, {"20261025T005959", "20260329T010000", "20261025T010000", 7200, 3600},
		{"20261231T235959", "20261025T010000", "20270328T010000", 3600, 7200}, {"20270101T000000", "20261025T010000", "20270328T010000", 3600, 7200},
	} {
		s, ok := Before(z, at(c.u))
		if want := (api.Shift{At: at(c.ahead), Off: c.on}); s != want || !ok {
			t.Errorf("Before at %s: %+v, %t", c.u, s, ok)
		}
		s, ok = After(z, at(c.u))
		if want := (api.Shift{At: at(c.next), Off: c.off}); s != want || !ok {
			t.Errorf("After at %s: %+v, %t", c.u, s, ok)
		}
	}
}

// Where there is no shift on a side.
func TestP3_1NoShift(t *testing.T) {
	z := middle()
	for _, s := range []string{"00010101T000000", "19700101T000000", "19951231T235959", "19960331T005959"} {
		if got, ok := Before(z, at(s)); got != (api.Shift{}) || ok {
			t.Errorf("Before at %s: %+v, %t", s, got, ok)
		}
		if got, ok := After(z, at(s)); got != (api.Shift{At: at("19960331T010000"), Off: 7200}) || !ok {
			t.Errorf("After at %s: %+v, %t", s, got, ok)
		}
	}
	for _, s := range []string{"99991031T010000", "99991231T235959"} {
		if got, ok := Before(z, at(s)); got != (api.Shift{At: at("99991031T010000"), Off: 3600}) || !ok {
			t.Errorf("Before at %s: %+v, %t", s, got, ok)
		}
		if got, ok := After(z, at(s)); got != (api.Shift{}) || ok {
			t.Errorf("After at %s: %+v, %t", s, got, ok)
		}
	}
	for _, base := range []int{-64800, 0, 64800} {
		for _, u := range []int{first, -1, 0, 1, last} {
			holdMoment(t, api.Zone{Base: base}, nil, u)
		}
	}
}

// Each shift of each zone: of the yearly ones those of a few years at both
// ends, and one of seven between.
func TestP3_1P3_2P3_5EveryShift(t *testing.T) {
	begins := months()
	for _, z := range right() {
		shifts := all(z, begins)
		for n := range shifts {
			if n < 80 || n >= len(shifts)-10 || n%7 == 0 {
				around(t, z, shifts, n)
			}
		}
		for _, u := range []int{first, first + 1, -1, 0, 1, last - 1, last} {
			holdMoment(t, z, shifts, u)
			holdBack(t, z, u)
		}
		for _, l := range []int{lowL - 1, lowL, lowL + 1, -1, 0, 1, highL - 1, highL, highL + 1} {
			holdLocal(t, z, shifts, l)
		}
	}
}

func TestP3_1P3_2P3_5SomeZones(t *testing.T) {
	begins := months()
	r := rand.New(rand.NewSource(3))
	for range 400 {
		z := some(r)
		if !May(z) {
			t.Fatalf("May(%+v) is false", z)
		}
		shifts := all(z, begins)
		for n := range min(len(shifts), 12) {
			around(t, z, shifts, n)
		}
		for range 50 {
			u := first + r.Intn(last-first+1)
			holdMoment(t, z, shifts, u)
			holdBack(t, z, u)
			holdLocal(t, z, shifts, u)
		}
	}
}

// Each second of the days at a few shifts.
func TestP3_1P3_2P3_5EverySecond(t *testing.T) {
	begins := months()
	for _, c := range []struct {
		z      api.Zone
		lo, hi int
	}{
		{middle(), at("20260328T120000"), at("20260329T120000")},
		{middle(), at("20261024T120000"), at("20261025T120000")},
		{shifted(0, row(1000000, 3, 64800, -64800)...), 900000, 1500000},
		{shifted(-64800, row(1000000, 2, 64800, -64800)...), 900000, 1300000},
	} {
		shifts := all(c.z, begins)
		for n := c.lo; n < c.hi; n++ {
			holdMoment(t, c.z, shifts, n)
			holdBack(t, c.z, n)
			holdLocal(t, c.z, shifts, n)
		}
	}
}

// The chapter: the shifts are in order of time, all more than two days apart.
func TestP3_1ShiftsApart(t *testing.T) {
	begins := months()
	for i, z := range right() {
		shifts := all(z, begins)
		u := first
		for n := 0; ; n++ {
			s, ok := After(z, u)
			if n == 0 && len(shifts) > 0 && shifts[0].At == first {
				s, ok = Before(z, u)
			}
			if !ok {
				if n != len(shifts) {
					t.Errorf("zone %d: %d shifts, not %d", i, n, len(shifts))
				}
				break
			}
			if n > 0 && s.At-u <= 2*86400 {
				t.Fatalf("zone %d: shifts at %d and %d", i, u, s.At)
			}
			u = s.At
		}
	}
}

func TestP3_1MayRight(t *testing.T) {
	for i, z := range right() {
		if !May(z) {
			t.Errorf("zone %d, %+v: May is false", i, z)
		}
	}
	for _, y := range []int{1, 2, 1970, 9998, 9999} {
		z := middle()
		z.From = y
		if !May(z) {
			t.Errorf("From %d: May is false", y)
		}
	}
}

// refused holds that the zone may not be, and that nothing is said of it.
func refused(t *testing.T, what string, z api.Zone) {
	t.Helper()
	if May(z) {
		t.Errorf("%s: May is true", what)
	}
	for _, u := range []int{first, -1, 0, 5, 1 << 31, lowL, highL, last, first - 1, last + 1, math.MinInt, math.MaxInt} {
		if a, b, c := Offset(z, u), Local(z, u), UTC(z, u); a != 0 || b != 0 || c != 0 {
			t.Errorf("%s: Offset %d, Local %d, UTC %d of %d", what, a, b, c, u)
		}
		if s, ok := Before(z, u); ok || s != (api.Shift{}) {
			t.Errorf("%s: Before(%d) = %+v, %t", what, u, s, ok)
		}
		if s, ok := After(z, u); ok || s != (api.Shift{}) {
			t.Errorf("%s: After(%d) = %+v, %t", what, u, s, ok)
		}
	}
}

func TestP3_1MayOffsets(t *testing.T) {
	for _, n := range []int{-64800, -64799, -1, 0, 1, 64799, 64800} {
		z := middle()
		z.Base, z.Shifts, z.Years[0].Off, z.Years[1].Off = n, row(0, 3, n, n), n, n
		if !May(z) {
			t.Errorf("offset %d: May is false", n)
		}
	}
	for _, n := range outside(-64800, 64800) {
		z := middle()
		z.Base = n
		refused(t, "Base", z)
		refused(t, "Base alone", api.Zone{Base: n})
		for i := range 2 {
			z = middle()
			z.Years[i].Off = n
			refused(t, "an offset of Years", z)
		}
		for i := range 3 {
			z = shifted(0, row(0, 3, 3600, 0)...)
			z.Shifts[i].Off = n
			refused(t, "an offset of Shifts", z)
		}
	}
}

func TestP3_1MayShifts(t *testing.T) {
	for n := 63; n <= 66; n++ {
		z := shifted(0, row(0, n, 3600, 0)...)
		if n <= 64 && !May(z) {
			t.Errorf("%d shifts: May is false", n)
		}
		if n > 64 {
			refused(t, "too many shifts", z)
		}
	}
	refused(t, "far too many shifts", shifted(0, row(0, 100000, 3600, 0)...))
	for _, u := range outside(first, last) {
		refused(t, "a shift at no moment", shifted(0, api.Shift{At: u, Off: 3600}))
		refused(t, "a shift at no moment, ahead", shifted(0, api.Shift{At: u, Off: 3600}, api.Shift{At: 0}))
		refused(t, "a shift at no moment, last", shifted(0, api.Shift{At: 0, Off: 3600}, api.Shift{At: u}))
		z := middle()
		z.Shifts = []api.Shift{{At: u, Off: 3600}}
		refused(t, "a shift at no moment, with years", z)
	}
	for i := 1; i < 4; i++ {
		for _, by := range []int{199999, 199998, 172801, 1, 0, -1, -200000, -1000000} {
			z := shifted(0, row(0, 4, 3600, 0)...)
			for j := i; j < 4; j++ {
				z.Shifts[j].At += by - 200000
			}
			refused(t, "shifts too near", z)
		}
		for _, by := range []int{200000, 200001, 1 << 31} {
			z := shifted(0, row(0, 4, 3600, 0)...)
			for j := i; j < 4; j++ {
				z.Shifts[j].At += by - 200000
			}
			if !May(z) {
				t.Errorf("shifts %d apart: May is false", by)
			}
		}
	}
}

func TestP3_1MayYears(t *testing.T) {
	two := middle().Years
	refused(t, "one of Years", api.Zone{From: 1996, Years: two[:1]})
	refused(t, "three of Years", api.Zone{From: 1996, Years: append(slices.Clone(two), api.Yearly{Month: 12, Nth: 1})})
	refused(t, "four of Years", api.Zone{From: 1996, Years: append(slices.Clone(two), two...)})
	for _, n := range append([]int{1, -1, 1996, 9999, 10000}, far...) {
		refused(t, "From without Years", api.Zone{From: n})
		refused(t, "From with Shifts alone", api.Zone{From: n, Shifts: row(-1<<40/100, 1, 0, 0)})
	}
	for _, n := range outside(1, 9999) {
		z := middle()
		z.From = n
		refused(t, "From", z)
	}
	months := append([]int{1, 2, 3, 4, 5, 6, 7, 8, 9, 10, 11, 12}, outside(1, 12)...)
	for _, a := range months {
		for _, b := range months {
			z := middle()
			z.Years[0].Month, z.Years[1].Month = a, b
			if a < 1 || a > 12 || b < 1 || b > 12 || b < a+2 || b > a+10 {
				refused(t, "Months", z)
			} else if !May(z) {
				t.Errorf("Months %d, %d: May is false", a, b)
			}
		}
	}
	for i := range 2 {
		field := func(what string, lo, hi int, set func(r *api.Yearly, n int)) {
			for n := lo; n <= hi; n += max(1, (hi-lo)/9) {
				z := middle()
				if set(&z.Years[i], n); !May(z) {
					t.Errorf("%s %d: May is false", what, n)
				}
			}
			for _, n := range outside(lo, hi) {
				z := middle()
				set(&z.Years[i], n)
				refused(t, what, z)
			}
		}
		field("Nth", 1, 5, func(r *api.Yearly, n int) { r.Nth = n })
		field("Wday", 0, 6, func(r *api.Yearly, n int) { r.Wday = n })
		field("Sec", 0, 86399, func(r *api.Yearly, n int) { r.Sec = n })
	}
}

// From's first second is held against the last Shift.
func TestP3_1MayFrom(t *testing.T) {
	for _, c := range []struct {
		from  int
		first string
	}{{2, "00020101T000000"}, {1996, "19960101T000000"}, {9999, "99990101T000000"}} {
		z := middle()
		z.From = c.from
		for _, by := range []int{200000, 200001, 30000000} {
			z.Shifts = []api.Shift{{At: first, Off: 3600}, {At: at(c.first) - by}}
			if by == 30000000 && c.from == 2 {
				z.Shifts = z.Shifts[1:]
			}
			if !May(z) {
				t.Errorf("From %d, a shift %d ahead: May is false", c.from, by)
			}
		}
		for _, by := range []int{199999, 199998, 1, 0, -1, -200000, -30000000} {
			z.Shifts = []api.Shift{{At: at(c.first) - by}}
			refused(t, "a shift too near to From", z)
			z.Shifts = []api.Shift{{At: first, Off: 3600}, {At: at(c.first) - by}}
			refused(t, "the last shift too near to From", z)
		}
	}
	z := middle()
	z.From, z.Shifts = 1, []api.Shift{{At: first}}
	refused(t, "a shift, and From 1", z)
}

// Nothing is said of what is no moment.
func TestP3_1NoMoment(t *testing.T) {
	for i, z := range right() {
		for _, u := range outside(first, last) {
			if a, b := Offset(z, u), Local(z, u); a != 0 || b != 0 {
				t.Errorf("zone %d: Offset %d, Local %d of %d", i, a, b, u)
			}
			if s, ok := Before(z, u); ok || s != (api.Shift{}) {
				t.Errorf("zone %d: Before(%d) = %+v, %t", i, u, s, ok)
			}
			if s, ok := After(z, u); ok || s != (api.Shift{}) {
				t.Errorf("zone %d: After(%d) = %+v, %t", i, u, s, ok)
			}
		}
	}
}

func TestP3_2Example(t *testing.T) {
	z := middle()
	for _, c := range [][2]string{
		{"20260329T015959", "20260329T005959"}, {"20260329T020000", "20260329T010000"}, {"20260329T023000", "20260329T013000"}, {"20260329T025959", "20260329T015959"}, {"20260329T030000", "20260329T010000"},
		{"20261025T015959", "20261024T235959"}, {"20261025T020000", "20261025T000000"}, {"20261025T023000", "20261025T003000"}, {"20261025T025959", "20261025T005959"}, {"20261025T030000", "20261025T020000"},
		{"20260101T120000", "20260101T110000"}, {"20260701T120000", "20260701T100000"}, {"19950701T120000", "19950701T110000"},
		{"00020101T000000", "00011231T230000"}, {"99981231T235959", "99981231T225959"}, {"19700101T010000", "19700101T000000"},
	} {
		if got := UTC(z, at(c[0])); got != at(c[1]) {
			t.Errorf("UTC of %s: %d, not %s", c[0], got, c[1])
		}
	}
}

// The years 2 and 9998 are the ends, whatever the zone.
func TestP3_2Ends(t *testing.T) {
	for i, z := range right() {
		for _, l := range append(outside(lowL, highL), first, last, first-1, last+1) {
			if got := UTC(z, l); got != 0 {
				t.Errorf("zone %d: UTC(%d) = %d", i, l, got)
			}
		}
	}
	for _, base := range []int{-64800, -1, 0, 1, 64800} {
		for _, l := range []int{lowL, lowL + 1, 0, highL - 1, highL} {
			if got := UTC(api.Zone{Base: base}, l); got != l-base {
				t.Errorf("Base %d: UTC(%d) = %d", base, l, got)
			}
		}
	}
	// No shift of the years at the ends is too far off.
	z := shifted(0, api.Shift{At: lowL - 64800, Off: 64800}, api.Shift{At: highL + 1, Off: -64800})
	for _, c := range [][2]int{{lowL, lowL - 64800}, {lowL + 1, lowL - 64799}, {highL, highL - 64800}} {
		if got := UTC(z, c[0]); got != c[1] {
			t.Errorf("UTC(%d) = %d, not %d", c[0], got, c[1])
		}
	}
}

func TestP3_3Same(t *testing.T) {
	zones := append(right()[:4], right()[5:]...) // 4 is the first one again
	for i, a := range zones {
		for j, b := range zones {
			if got := Same(a, b); got != (i == j) {
				t.Errorf("Same(%+v, %+v) = %t", a, b, got)
			}
		}
	}
	whole := func() api.Zone {
		z := middle()
		z.Shifts = row(0, 3, 3600, 7200)
		return z
	}
	for i, change := range []func(z *api.Zone){
		func(z *api.Zone) { z.Base++ }, func(z *api.Zone) { z.From++ }, func(z *api.Zone) { z.From = -1 },
		func(z *api.Zone) { z.Shifts[0].At++ }, func(z *api.Zone) { z.Shifts[2].At-- }, func(z *api.Zone) { z.Shifts[1].Off++ },
		func(z *api.Zone) { z.Shifts = z.Shifts[:2] }, func(z *api.Zone) { z.Shifts = z.Shifts[1:] }, func(z *api.Zone) { z.Shifts = nil }, func(z *api.Zone) { z.Shifts = append(z.Shifts, api.Shift{}) },
		func(z *api.Zone) { z.Shifts[0], z.Shifts[2] = z.Shifts[2], z.Shifts[0]; z.Shifts[0].Off = 1 },
		func(z *api.Zone) { z.Years[0].Month++ }, func(z *api.Zone) { z.Years[1].Nth-- }, func(z *api.Zone) { z.Years[0].Wday-- }, func(z *api.Zone) { z.Years[1].Sec++ }, func(z *api.Zone) { z.Years[1].Off++ },
		func(z *api.Zone) { z.Years = z.Years[:1] }, func(z *api.Zone) { z.Years = nil }, func(z *api.Zone) { z.Years = append(z.Years, api.Yearly{}) },
		func(z *api.Zone) { z.Years[0], z.Years[1] = z.Years[1], z.Years[0] },
	} {
		z := whole()
		change(&z)
		if Same(whole(), z) || Same(z, whole()) {
			t.Errorf("case %d: Same is true", i)
		}
		// Zones that may not be are held against each other likewise.
		other := whole()
		change(&other)
		if !Same(z, other) {
			t.Errorf("case %d: Same is false of a copy", i)
		}
	}
	if !Same(api.Zone{}, api.Zone{Shifts: []api.Shift{}, Years: []api.Yearly{}}) || !Same(api.Zone{Shifts: []api.Shift{}}, api.Zone{}) {
		t.Error("nil and the empty list are not the same")
	}
}

// crowded is the zone in memory that has more behind each list's length.
func crowded(z api.Zone) api.Zone {
	shifts := append(slices.Clone(z.Shifts), row(7, 80, 99999, -99999)...)
	years := append(slices.Clone(z.Years), api.Yearly{Month: 77}, api.Yearly{Nth: 99})
	z.Shifts, z.Years = shifts[:len(z.Shifts)], years[:len(z.Years)]
	return z
}

func TestP3_4NotChanged(t *testing.T) {
	for i, z := range append(right(), api.Zone{Base: 99999, Shifts: row(5, 70, 1, 2), Years: middle().Years[:1], From: -3}) {
		handed := crowded(z)
		was := crowded(z)
		for _, n := range []int{first, 0, 1 << 31, last, last + 1} {
			a, _ := Before(handed, n)
			b, _ := Before(z, n)
			c, _ := After(handed, n)
			d, _ := After(z, n)
			if a != b || c != d || Offset(handed, n) != Offset(z, n) || Local(handed, n) != Local(z, n) || UTC(handed, n) != UTC(z, n) {
				t.Errorf("zone %d: what lies behind the lists is read at %d", i, n)
			}
		}
		if May(handed) != May(z) || !Same(handed, z) || !Same(z, handed) {
			t.Errorf("zone %d: what lies behind the lists is read", i)
		}
		if !slices.Equal(handed.Shifts[:cap(handed.Shifts)], was.Shifts[:cap(was.Shifts)]) || !slices.Equal(handed.Years[:cap(handed.Years)], was.Years[:cap(was.Years)]) {
			t.Errorf("zone %d: it is changed", i)
		}
	}
}

// A zone is asked anew each time: what its lists had before counts no more.
func TestP3_4NotKept(t *testing.T) {
	z := shifted(0, api.Shift{At: 1000000, Off: 3600})
	u := at("20260701T000000")
	s, _ := Before(z, u)
	n, _ := After(z, 0)
	z.Shifts[0] = api.Shift{At: 2000000, Off: -7200}
	if old := (api.Shift{At: 1000000, Off: 3600}); s != old || n != old {
		t.Errorf("Before %+v, After %+v", s, n)
	}
	if got := Offset(z, u); got != -7200 {
		t.Errorf("Offset: %d", got)
	}
	if got := UTC(z, u); got != u+7200 {
		t.Errorf("UTC: %d", got)
	}
	z.Shifts[0].Off = 64801
	refused(t, "a zone changed to none", z)
	y := middle()
	if got := Offset(y, u); got != 7200 {
		t.Errorf("Offset: %d", got)
	}
	y.Years[0].Off = 10800
	if got := Offset(y, u); got != 10800 {
		t.Errorf("Offset: %d", got)
	}
}

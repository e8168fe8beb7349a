package days

import (
	"maps"
	"math"
	"math/rand"
	"slices"
	"testing"
	"time"

	"convoker/api"
	"convoker/rule"
)

const (
	dayLen      = 86400
	firstMoment = -62135596800 // 0001-01-01T00:00:00
	lastMoment  = 253402300799 // 9999-12-31T23:59:59
)

// noDay holds numbers that are no day, noMoment those that are no moment.
var (
	noDay    = []int{firstDay - 1, lastDay + 1, math.MinInt, math.MinInt + 1, -1 << 32, -1 << 24, 1 << 24, 1 << 32, math.MaxInt - 1, math.MaxInt}
	noMoment = []int{firstMoment - 1, lastMoment + 1, math.MinInt, math.MinInt + 1, -1 << 50, 1 << 50, math.MaxInt - 1, math.MaxInt}
)

// entry is what a calendar tells of a day: how many of its weekday there are
// from the front and from the back of its month and of its year, and its week
// by each weekday that weeks may begin on.
type entry struct {
	n, y, m, d, yearDay, yearLen, monthLen, w  int
	monthFront, monthBack, yearFront, yearBack int
	weeks                                      [7]week
}

// week is the year and the number of a week, how many weeks that year has, and
// the year's first and last day.
type week struct{ y, number, all, first, last int }

func dateAt(n int) time.Time { return time.Unix(int64(n)*dayLen, 0).UTC() }

func dayOf(y, m, d int) int {
	return int(time.Date(y, time.Month(m), d, 0, 0, 0, 0, time.UTC).Unix() / dayLen)
}

// weekday is 0 on Mondays.
func weekday(n int) int { return (int(dateAt(n).Weekday()) + 6) % 7 }

// weekYear is the year that has most of the seven days from first on.
func weekYear(first int) int {
	if y := dateAt(first).Year(); dateAt(first+3).Year() == y {
		return y
	}
	return dateAt(first + 6).Year()
}

// calendar holds the days of the years from on to to, counted one by one.
func calendar(from, to int) []entry {
	var all []entry
	first := dayOf(from, 1, 1)
	for n := first; dateAt(n).Year() <= to; n++ {
		t := dateAt(n)
		y, m := t.Year(), int(t.Month())
		all = append(all, entry{n: n, y: y, m: m, d: t.Day(), yearDay: t.YearDay(), w: weekday(n),
			yearLen: dayOf(y+1, 1, 1) - dayOf(y, 1, 1), monthLen: dayOf(y, m+1, 1) - dayOf(y, m, 1)})
	}
	for i := range all {
		x := &all[i]
		count := func(step int, same func(o entry) bool) int {
			c := 0
			for j := i; j >= 0 && j < len(all) && same(all[j]); j += step {
				c++
			}
			return c
		}
		inMonth := func(o entry) bool { return o.y == x.y && o.m == x.m }
		inYear := func(o entry) bool { return o.y == x.y }
		x.monthFront, x.monthBack = count(-7, inMonth), -count(7, inMonth)
		x.yearFront, x.yearBack = count(-7, inYear), -count(7, inYear)
	}
	for wkst := range 7 {
		for n, k := range weeksOf(from-1, to+1, wkst) {
			if at := n - first; at >= 0 && at < len(all) {
				all[at].weeks[wkst] = k
			}
		}
	}
	return all
}

// weeksOf holds the week of each day whose week's year is one of from to to.
func weeksOf(from, to, wkst int) map[int]week {
	all := map[int]week{}
	n := dayOf(from, 1, 1) - 10
	for weekday(n) != wkst || weekYear(n) != from {
		n++
	}
	for weekYear(n) <= to {
		y, first := weekYear(n), n
		for weekYear(n) == y {
			n += 7
		}
		for i := first; i < n; i++ {
			all[i] = week{y: y, number: (i-first)/7 + 1, all: (n - first) / 7, first: first, last: n - 1}
		}
	}
	return all
}

// known holds the days of years of all kinds, those at both ends among them.
func known() []entry {
	var all []entry
	for _, years := range [][2]int{{1, 2}, {1899, 1901}, {1968, 1971}, {1998, 2026}, {9998, 9999}} {
		all = append(all, calendar(years[0], years[1])...)
	}
	return all
}

// kinds holds one year for each number of days and weekday that it begins on,
// and those at both ends.
func kinds() []entry {
	all := append(calendar(1, 1), calendar(9999, 9999)...)
	seen := map[[2]int]bool{}
	for y := 1996; y < 2024; y++ {
		kind := [2]int{dayOf(y+1, 1, 1) - dayOf(y, 1, 1), weekday(dayOf(y, 1, 1))}
		if !seen[kind] {
			all = append(all, calendar(y, y)...)
		}
		seen[kind] = true
	}
	return all
}

// entryOf is the entry of the moment's day.
func entryOf(all []entry, t int) entry {
	n := floor(t, dayLen)
	return all[slices.IndexFunc(all, func(x entry) bool { return x.n == n })]
}

func floor(n, by int) int {
	q := n / by
	for q*by > n {
		q--
	}
	return q
}

func plain(freq int) api.Rule { return api.Rule{Freq: freq, Interval: 1} }

func upto(lo, hi int) []int {
	var all []int
	for n := lo; n <= hi; n++ {
		if n != 0 || lo == 0 {
			all = append(all, n)
		}
	}
	return all
}

// fits is Fits of a rule, a start and a day that may be, word by word as the
// chapter has it.
func fits(r api.Rule, start, x entry) bool {
	hasWeek, hasYearDay, hasMonthDay, hasDay := len(r.Week) > 0, len(r.YearDay) > 0, len(r.MonthDay) > 0, len(r.Day) > 0
	in := slices.Contains[[]int]
	if len(r.Month) > 0 && !in(r.Month, x.m) {
		return false
	}
	if hasWeek {
		k := x.weeks[r.Wkst]
		if k.y == 0 || k.y == 10000 || !in(r.Week, k.number) && !in(r.Week, k.number-k.all-1) {
			return false
		}
	}
	if hasYearDay && !in(r.YearDay, x.yearDay) && !in(r.YearDay, x.yearDay-x.yearLen-1) {
		return false
	}
	if hasMonthDay && !in(r.MonthDay, x.d) && !in(r.MonthDay, x.d-x.monthLen-1) {
		return false
	}
	if hasDay && !fitsDays(r, x) {
		return false
	}
	if hasYearDay || hasMonthDay || hasDay {
		return true
	}
	if hasWeek {
		return x.w == start.w
	}
	switch r.Freq {
	case 1:
		return x.d == start.d && (len(r.Month) > 0 || x.m == start.m)
	case 2:
		return x.d == start.d
	case 3:
		return x.w == start.w
	}
	return true
}

func fitsDays(r api.Rule, x entry) bool {
	for _, d := range r.Day {
		if d.W != x.w {
			continue
		}
		switch {
		case d.N == 0:
			return true
		case r.Freq == 2, r.Freq == 1 && len(r.Month) > 0:
			if d.N == x.monthFront || d.N == x.monthBack {
				return true
			}
		case r.Freq == 1:
			if d.N == x.yearFront || d.N == x.yearBack {
				return true
			}
		}
	}
	return false
}

// holdFits holds Fits on each of the days, at each of the starts; how many fit.
func holdFits(t *testing.T, r api.Rule, starts []int, all []entry) int {
	t.Helper()
	if !rule.May(r) {
		t.Fatalf("%+v may not be", r)
	}
	yes := 0
	for _, start := range starts {
		from := entryOf(all, start)
		for _, x := range all {
			want := fits(r, from, x)
			if got := Fits(r, start, x.n); got != want {
				t.Fatalf("Fits(%+v, %d, %d) = %t", r, start, x.n, got)
			}
			if want {
				yes++
			}
		}
	}
	return yes
}

// starts holds moments of all of the days, at different times of day.
func starts(all []entry, step int) []int {
	var out []int
	for i := 0; i < len(all); i += step {
		out = append(out, all[i].n*dayLen+i*7919%dayLen)
	}
	last := all[len(all)-1].n*dayLen + dayLen - 1
	return append(out, all[0].n*dayLen, last)
}

// Of the start alone: each day of two years as the start's, and some at both
// ends.
func TestP6_1Start(t *testing.T) {
	two, both := calendar(2023, 2024), append(calendar(1, 1), calendar(9999, 9999)...)
	for freq := 1; freq <= 7; freq++ {
		for _, c := range []struct {
			all  []entry
			step int
		}{{two, 1}, {both, 9}} {
			if holdFits(t, plain(freq), starts(c.all, c.step), c.all) == 0 {
				t.Fatalf("Freq %d: none fits", freq)
			}
			// Neither a month, nor a time of day, nor Pos takes the start's place.
			r := plain(freq)
			r.Month, r.Hour, r.Minute, r.Second, r.Pos = []int{2, 12}, []int{1}, []int{2}, []int{3}, []int{1}
			holdFits(t, r, starts(c.all, 3*c.step), c.all)
		}
	}
	for _, list := range [][]int{{1}, {-1}, {52}, {-53, 53}, upto(1, 53)} {
		for _, all := range [][]entry{two, both} {
			r := plain(1)
			r.Week = list
			holdFits(t, r, starts(all, 30), all)
			r.Month = []int{1, 12}
			holdFits(t, r, starts(all, 30), all)
		}
	}
}

// Each number that a list may have, alone.
func TestP6_1Lists(t *testing.T) {
	all := kinds()
	start := []int{all[0].n * dayLen}
	for _, n := range upto(1, 12) {
		for freq := 1; freq <= 7; freq++ {
			holdFits(t, api.Rule{Freq: freq, Interval: 1, Month: []int{n}}, start, all)
		}
	}
	for _, n := range upto(-53, 53) {
		for wkst := range 7 {
			r := api.Rule{Freq: 1, Interval: 1, Wkst: wkst, Week: []int{n}, Day: []api.Day{{W: 0}, {W: 1}, {W: 2}, {W: 3}, {W: 4}, {W: 5}, {W: 6}}}
			if yes := holdFits(t, r, start, all); yes < 7 {
				t.Fatalf("Week %d: %d fit", n, yes)
			}
		}
	}
	for _, n := range upto(-366, 366) {
		r := api.Rule{Freq: 1, Interval: 1, YearDay: []int{n}}
		if yes := holdFits(t, r, start, all); yes < 7 {
			t.Fatalf("YearDay %d: %d fit", n, yes)
		}
	}
	for _, n := range upto(-31, 31) {
		for _, freq := range []int{1, 2, 4, 5, 6, 7} {
			holdFits(t, api.Rule{Freq: freq, Interval: 1, MonthDay: []int{n}}, start, all)
		}
	}
}

// Each number of each weekday: within months, within years, within the months
// of a year's rule.
func TestP6_1Days(t *testing.T) {
	all := kinds()
	start := []int{all[0].n * dayLen}
	for n := -53; n <= 53; n++ {
		for w := range 7 {
			day := []api.Day{{N: n, W: w}}
			yes := holdFits(t, api.Rule{Freq: 1, Interval: 1, Day: day}, start, all)
			if yes == 0 {
				t.Fatalf("day %d of weekday %d: none fits", n, w)
			}
			if n >= -6 && n <= 6 || w == 3 {
				holdFits(t, api.Rule{Freq: 2, Interval: 1, Day: day}, start, all)
				holdFits(t, api.Rule{Freq: 1, Interval: 1, Month: []int{2, 3, 12}, Day: day}, start, all)
			}
			if n == 0 {
				for freq := 3; freq <= 7; freq++ {
					holdFits(t, api.Rule{Freq: freq, Interval: 1, Day: day}, start, all)
				}
			}
		}
	}
}

// some takes some of the numbers, in order: of each about one in the given
// number, but no more than 60.
func some(rnd *rand.Rand, all []int, one int) []int {
	var out []int
	for _, n := range all {
		if rnd.Intn(one) == 0 && len(out) < 60 {
			out = append(out, n)
		}
	}
	return out
}

func someDays(rnd *rand.Rand, freq int) []api.Day {
	var out []api.Day
	one := 1 + rnd.Intn(40)
	for n := -53; n <= 53; n++ {
		for w := range 7 {
			if (n == 0 && rnd.Intn(3) == 0 || n != 0 && freq <= 2 && rnd.Intn(one*5) == 0) && len(out) < 60 {
				out = append(out, api.Day{N: n, W: w})
			}
		}
	}
	return out
}

// random is a rule that may be, with any of the lists.
func random(rnd *rand.Rand) api.Rule {
	for {
		r := api.Rule{Freq: 1 + rnd.Intn(7), Interval: 1 + rnd.Intn(1000), Wkst: rnd.Intn(7)}
		for _, f := range []struct {
			list *[]int
			lo   int
			hi   int
		}{{&r.Month, 1, 12}, {&r.Week, -53, 53}, {&r.YearDay, -366, 366}, {&r.MonthDay, -31, 31}, {&r.Hour, 0, 23}, {&r.Minute, 0, 59}, {&r.Second, 0, 59}, {&r.Pos, -366, 366}} {
			if rnd.Intn(3) == 0 {
				*f.list = some(rnd, upto(f.lo, f.hi), 1+rnd.Intn(1+(f.hi-f.lo)/6))
			}
		}
		if rnd.Intn(3) == 0 {
			r.Day = someDays(rnd, r.Freq)
		}
		switch rnd.Intn(4) {
		case 0:
			r.Count = rnd.Intn(4097)
		case 1:
			r.Ends, r.Until = true, rnd.Intn(1<<32)-1<<31
		}
		if rule.May(r) {
			return r
		}
	}
}

func TestP6_1Random(t *testing.T) {
	all := known()
	rnd := rand.New(rand.NewSource(6))
	yes, no := 0, 0
	for range 700 {
		r := random(rnd)
		at := rnd.Intn(len(all))
		n := holdFits(t, r, []int{all[at].n*dayLen + rnd.Intn(dayLen)}, all)
		yes += n
		no += len(all) - n
	}
	if yes < 100000 || no < 100000 {
		t.Fatalf("%d fit, %d don't", yes, no)
	}
}

// The words of the chapter that one day shows.
func TestP6_1Known(t *testing.T) {
	day := func(n, w int) []api.Day { return []api.Day{{N: n, W: w}} }
	leap := dayOf(2024, 2, 29) * dayLen
	for _, c := range []struct {
		r       api.Rule
		start   int
		y, m, d int
		want    bool
	}{
		{api.Rule{Freq: 2, Interval: 1, Day: day(-1, 4)}, 0, 2026, 1, 30, true},
		{api.Rule{Freq: 2, Interval: 1, Day: day(-1, 4)}, 0, 2026, 1, 23, false},
		{plain(1), leap, 2025, 2, 28, false},
		{plain(1), leap, 2025, 3, 1, false},
		{plain(1), leap, 2028, 2, 29, true},
		{plain(1), leap + dayLen - 1, 2028, 2, 29, true},
		{plain(1), leap - 1, 2028, 2, 29, false},
		// The fifth Monday is the last one only where there are five.
		{api.Rule{Freq: 2, Interval: 1, Day: day(5, 0)}, 0, 2026, 2, 23, false},
		{api.Rule{Freq: 2, Interval: 1, Day: day(5, 0)}, 0, 2026, 3, 30, true},
		{api.Rule{Freq: 2, Interval: 1, Day: day(-5, 0)}, 0, 2026, 3, 2, true},
		// The year's days are those of the date's year, whatever the week's is.
		{api.Rule{Freq: 1, Interval: 1, Week: []int{1}, YearDay: []int{-1}}, 0, 2025, 12, 31, true},
		{api.Rule{Freq: 1, Interval: 1, Week: []int{1}, YearDay: []int{1}}, 0, 2026, 1, 1, true},
		{api.Rule{Freq: 1, Interval: 1, Month: []int{1}, Week: []int{1}, Day: day(0, 3)}, 0, 2026, 1, 1, true},
		{api.Rule{Freq: 1, Interval: 1, Month: []int{1}, Week: []int{1}, Day: day(0, 2)}, 0, 2025, 12, 31, false},
		// A year of 52 weeks has no week 53, nor -53.
		{api.Rule{Freq: 1, Interval: 1, Week: []int{-53, 53}, Day: day(0, 2)}, 0, 2025, 1, 1, false},
		{api.Rule{Freq: 1, Interval: 1, Week: []int{-53, 53}, Day: day(0, 2)}, 0, 2025, 12, 24, false},
		{api.Rule{Freq: 1, Interval: 1, Week: []int{-52}, Day: day(0, 2)}, 0, 2025, 1, 1, true},
		{api.Rule{Freq: 1, Interval: 1, Week: []int{-53}, Day: day(0, 3)}, 0, 2026, 1, 1, true},
		{api.Rule{Freq: 1, Interval: 1, Week: []int{53}, Day: day(0, 4)}, 0, 2027, 1, 1, true},
	} {
		if got := Fits(c.r, c.start, dayOf(c.y, c.m, c.d)); got != c.want {
			t.Errorf("Fits(%+v, %d, %d-%d-%d) = %t", c.r, c.start, c.y, c.m, c.d, got)
		}
	}
}

// At both ends a week may be one of a year of 0 or 10000: no Week takes it.
func TestP6_1Ends(t *testing.T) {
	none := 0
	for wkst := range 7 {
		weeks := weeksOf(0, 1, wkst)
		maps.Copy(weeks, weeksOf(9999, 10000, wkst))
		for _, list := range [][]int{upto(-53, -1), upto(1, 53)} {
			r := api.Rule{Freq: 1, Interval: 1, Wkst: wkst, Week: list, MonthDay: upto(1, 31)}
			for i := range 14 {
				for _, n := range []int{firstDay + i, lastDay - i} {
					y := weeks[n].y
					if got := Fits(r, 0, n); got != (y >= 1 && y <= 9999) {
						t.Errorf("Fits(%+v, 0, %d) = %t", r, n, got)
					}
					if y == 0 || y == 10000 {
						none++
					}
				}
			}
		}
	}
	if none < 10 {
		t.Fatalf("%d days of such years", none)
	}
}

// mayNot holds rules that may not be; were they not asked whether they may,
// they would take day 0.
func mayNot() []api.Rule {
	all := []api.Rule{
		{}, plain(0), plain(8), plain(-1), plain(math.MinInt), plain(math.MaxInt),
		{Freq: 4}, {Freq: 4, Interval: -1}, {Freq: 4, Interval: 1001}, {Freq: 4, Interval: 1, Count: -1}, {Freq: 4, Interval: 1, Count: api.MaxOcc + 1},
		{Freq: 4, Interval: 1, Wkst: 7}, {Freq: 4, Interval: 1, Wkst: -1}, {Freq: 1, Interval: 1, Wkst: 7, Week: []int{1}},
		{Freq: 4, Interval: 1, Until: 1}, {Freq: 4, Interval: 1, Ends: true, Until: lastMoment + 1}, {Freq: 4, Interval: 1, Ends: true, Until: 5, Count: 1},
		{Freq: 4, Interval: 1, Month: []int{1, 1}}, {Freq: 4, Interval: 1, Month: []int{1, 13}}, {Freq: 4, Interval: 1, Month: []int{0, 1}}, {Freq: 4, Interval: 1, Month: []int{2, 1}},
		{Freq: 2, Interval: 1, Week: []int{1}}, {Freq: 1, Interval: 1, Week: []int{1, 54}}, {Freq: 1, Interval: 1, Week: []int{0, 1}},
		{Freq: 4, Interval: 1, YearDay: []int{1}}, {Freq: 1, Interval: 1, YearDay: []int{1, 367}}, {Freq: 3, Interval: 1, MonthDay: []int{1}}, {Freq: 4, Interval: 1, MonthDay: []int{1, 32}},
		{Freq: 4, Interval: 1, Day: []api.Day{{N: 1, W: 3}}}, {Freq: 1, Interval: 1, Week: []int{1}, Day: []api.Day{{N: 0, W: 3}, {N: 1, W: 3}}},
		{Freq: 4, Interval: 1, Day: []api.Day{{N: 0, W: 3}, {N: 0, W: 7}}}, {Freq: 4, Interval: 1, Day: []api.Day{{N: 0, W: 3}, {N: 0, W: 3}}},
		{Freq: 4, Interval: 1, Hour: []int{24}}, {Freq: 4, Interval: 1, Minute: []int{60}}, {Freq: 4, Interval: 1, Second: []int{60}}, {Freq: 4, Interval: 1, Second: []int{1, 0}},
		{Freq: 4, Interval: 1, Pos: []int{1}}, {Freq: 4, Interval: 1, Hour: upto(0, 23), Minute: upto(0, 41)}, {Freq: 1, Interval: 1, YearDay: upto(1, 61)},
	}
	for freq := 1; freq <= 7; freq++ {
		all = append(all, api.Rule{Freq: freq})
	}
	return all
}

func TestP6_1None(t *testing.T) {
	for _, r := range mayNot() {
		if Fits(r, 0, 0) {
			t.Errorf("Fits(%+v, 0, 0)", r)
		}
	}
	for freq := 1; freq <= 7; freq++ {
		r := api.Rule{Freq: freq, Interval: 1, Day: []api.Day{{W: 0}, {W: 1}, {W: 2}, {W: 3}, {W: 4}, {W: 5}, {W: 6}}}
		for _, n := range []int{firstDay, -1, 0, 1, lastDay} {
			for _, start := range []int{firstMoment, -1, 0, 1, lastMoment} {
				if !Fits(r, start, n) {
					t.Errorf("Fits(%+v, %d, %d) = false", r, start, n)
				}
			}
			for _, start := range noMoment {
				if Fits(r, start, n) || Fits(plain(freq), start, n) {
					t.Errorf("Fits(Freq %d, %d, %d)", freq, start, n)
				}
			}
		}
		for _, n := range noDay {
			if Fits(r, 0, n) || Fits(plain(freq), 0, n) {
				t.Errorf("Fits(Freq %d, 0, %d)", freq, n)
			}
		}
	}
}

// holdTimes holds Times against what the chapter says of each of the lists.
func holdTimes(t *testing.T, r api.Rule, start int) {
	t.Helper()
	at := time.Unix(int64(start), 0).UTC()
	h, m, s := Times(r, start)
	for i, c := range []struct {
		got, list      []int
		own, most, all int
	}{{h, r.Hour, at.Hour(), 24, 5}, {m, r.Minute, at.Minute(), 60, 6}, {s, r.Second, at.Second(), 60, 7}} {
		want := c.list
		if len(want) == 0 && r.Freq < c.all {
			want = []int{c.own}
		} else if len(want) == 0 {
			want = upto(0, c.most-1)
		}
		if !slices.Equal(c.got, want) {
			t.Fatalf("Times(%+v, %d): list %d is %v, not %v", r, start, i, c.got, want)
		}
	}
}

func TestP6_2Times(t *testing.T) {
	lists := [][3][]int{{{0}, {0}, {0}}, {{23}, {59}, {59}}, {{3, 4}, {5, 6, 7}, {0, 59}}, {upto(0, 23), upto(0, 40), nil}, {nil, upto(0, 59), {1}}, {{9}, nil, upto(0, 59)}}
	moments := []int{firstMoment, firstMoment + 1, -dayLen - 1, -dayLen, -1, 0, 1, 3599, 3600, 45296, dayLen - 1, dayLen, lastMoment - 1, lastMoment}
	for freq := 1; freq <= 7; freq++ {
		for _, l := range lists {
			for set := range 8 {
				r := plain(freq)
				for i, list := range []*[]int{&r.Hour, &r.Minute, &r.Second} {
					if set>>i&1 == 1 {
						*list = l[i]
					}
				}
				for _, start := range moments {
					holdTimes(t, r, start)
				}
			}
		}
		for start := -dayLen; start < 0; start += 1 + (freq-1)*29 {
			holdTimes(t, plain(freq), start)
		}
	}
	rnd := rand.New(rand.NewSource(62))
	for range 20000 {
		holdTimes(t, random(rnd), firstMoment+rnd.Intn(lastMoment-firstMoment+1))
	}
}

func TestP6_2None(t *testing.T) {
	none := func(r api.Rule, start int) {
		t.Helper()
		if h, m, s := Times(r, start); len(h)+len(m)+len(s) > 0 {
			t.Errorf("Times(%+v, %d) = %v, %v, %v", r, start, h, m, s)
		}
	}
	for _, r := range mayNot() {
		none(r, 0)
	}
	for freq := 1; freq <= 7; freq++ {
		for _, start := range noMoment {
			none(plain(freq), start)
			none(api.Rule{Freq: freq, Interval: 1, Hour: []int{1}, Minute: []int{2}, Second: []int{3}}, start)
		}
	}
}

// periodic holds rules of all kinds that differ in their periods.
func periodic() []api.Rule {
	all := []api.Rule{plain(1), plain(2), plain(4)}
	for wkst := range 7 {
		all = append(all, api.Rule{Freq: 3, Interval: 1, Wkst: wkst}, api.Rule{Freq: 1, Interval: 1, Wkst: wkst, Week: []int{20}},
			api.Rule{Freq: 1, Interval: 2, Wkst: wkst, Month: []int{2}})
	}
	return all
}

// ends tells whether the period of the day ends with it, by the rule's Freq of
// 1 to 4, and whether it begins with it.
func ends(r api.Rule, n int) (bool, bool) {
	at, next := dateAt(n), dateAt(n+1)
	switch {
	case r.Freq == 1 && len(r.Week) == 0:
		return at.Year() != next.Year(), at.YearDay() == 1
	case r.Freq == 2:
		return next.Day() == 1, at.Day() == 1
	case r.Freq == 3:
		return weekday(n+1) == r.Wkst, weekday(n) == r.Wkst
	case r.Freq == 1:
		first := weekday(n) == r.Wkst && weekYear(n-7) != weekYear(n)
		return weekday(n+1) == r.Wkst && weekYear(n+1) != weekYear(n-6), first
	}
	return true, true
}

// All days of the years 1 to 9999: their periods follow each other, from the
// first day that ends or begins one to the last.
func TestP6_3Walk(t *testing.T) {
	for _, r := range periodic() {
		step := 1
		if r.Freq == 4 {
			step = 5
		}
		k, base := 0, 0
		for n := firstDay; n <= lastDay; {
			a, b := Days(r, n*dayLen)
			p, ok := Period(r, 0, n*dayLen)
			if n == firstDay {
				base = p
			}
			last, _ := ends(r, b)
			_, first := ends(r, a)
			if a != n || b < a || !ok || p-base != k || !first && a != firstDay || !last && b != lastDay {
				t.Fatalf("%+v: period %d is %d (%t), %d to %d, not from %d", r, k, p-base, ok, a, b, n)
			}
			if q, _ := Period(r, 0, b*dayLen+dayLen-1); q != p {
				t.Fatalf("%+v: period of %d is %d, of %d is %d", r, a, p, b, q)
			}
			if step == 1 {
				holdInside(t, r, a, b)
			}
			n, k = b+step, k+step
		}
	}
}

// holdInside holds that no period ends within the days of one, at some of them
// where they are many.
func holdInside(t *testing.T, r api.Rule, a, b int) {
	t.Helper()
	for n := a; n < b; n += 1 + (b-a)/40 {
		if last, _ := ends(r, n); last {
			t.Fatalf("%+v: a period ends with %d, within %d to %d", r, n, a, b)
		}
	}
}

// wanted is the first and the last day of the entry's period.
func wanted(r api.Rule, x entry) (int, int) {
	first, last := x.n, x.n
	switch r.Freq {
	case 1:
		first, last = x.n-x.yearDay+1, x.n-x.yearDay+x.yearLen
		if len(r.Week) > 0 {
			first, last = x.weeks[r.Wkst].first, x.weeks[r.Wkst].last
		}
	case 2:
		first, last = x.n-x.d+1, x.n-x.d+x.monthLen
	case 3:
		for weekday(first) != r.Wkst {
			first--
		}
		last = first + 6
	}
	return max(first, firstDay), min(last, lastDay)
}

// number is a number of the period that the moment of the entry lies in.
func number(r api.Rule, x entry, t int) int {
	switch r.Freq {
	case 1:
		if len(r.Week) > 0 {
			return x.weeks[r.Wkst].y
		}
		return x.y
	case 2:
		return x.y*12 + x.m
	case 3:
		return floor(x.n+3-r.Wkst, 7)
	case 4:
		return x.n
	case 5:
		return floor(t, 3600)
	case 6:
		return floor(t, 60)
	}
	return t
}

// Each known day, and periods between any two of them.
func TestP6_3Known(t *testing.T) {
	all := known()
	rnd := rand.New(rand.NewSource(63))
	rules := append(periodic(), plain(5), plain(6), plain(7))
	for range 60 {
		rules = append(rules, random(rnd))
	}
	for _, r := range rules {
		from := all[rnd.Intn(len(all))]
		for _, x := range all {
			start, at := from.n*dayLen+rnd.Intn(dayLen), x.n*dayLen+rnd.Intn(dayLen)
			a, b := Days(r, at)
			if c, d := wanted(r, x); a != c || b != d {
				t.Fatalf("Days(%+v, %d) = %d, %d, not %d, %d", r, at, a, b, c, d)
			}
			want := number(r, x, at) - number(r, from, start)
			if p, ok := Period(r, start, at); p != want || !ok {
				t.Fatalf("Period(%+v, %d, %d) = %d, %t, not %d", r, start, at, p, ok, want)
			}
			if p, ok := Period(r, at, start); p != -want || !ok {
				t.Fatalf("Period(%+v, %d, %d) = %d, %t, not %d", r, at, start, p, ok, -want)
			}
		}
	}
}

// Hours, minutes and seconds, each moment of some days, below 0 too.
func TestP6_3Clock(t *testing.T) {
	for _, from := range []int{firstMoment, -dayLen, lastMoment - dayLen} {
		for freq, length := range map[int]int{4: dayLen, 5: 3600, 6: 60, 7: 1} {
			want := 0
			for at := from; at <= from+dayLen; at++ {
				// Each of these begins with a day, and from is a day's first second
				// or its last.
				if at > from && (at-from+(from-firstMoment)%dayLen)%length == 0 {
					want++
				}
				if p, ok := Period(plain(freq), from, at); p != want || !ok {
					t.Fatalf("Period(Freq %d, %d, %d) = %d, %t, not %d", freq, from, at, p, ok, want)
				}
			}
		}
	}
	if p, ok := Period(plain(7), firstMoment, lastMoment); p != lastMoment-firstMoment || !ok {
		t.Errorf("Period of all seconds = %d, %t", p, ok)
	}
	if p, ok := Period(plain(7), lastMoment, firstMoment); p != firstMoment-lastMoment || !ok {
		t.Errorf("Period of all seconds = %d, %t", p, ok)
	}
}

func TestP6_3None(t *testing.T) {
	none := func(r api.Rule, start, at int) {
		t.Helper()
		if p, ok := Period(r, start, at); p != 0 || ok {
			t.Errorf("Period(%+v, %d, %d) = %d, %t", r, start, at, p, ok)
		}
	}
	noDays := func(r api.Rule, at int) {
		t.Helper()
		if a, b := Days(r, at); a != 0 || b != 0 {
			t.Errorf("Days(%+v, %d) = %d, %d", r, at, a, b)
		}
	}
	for _, r := range mayNot() {
		none(r, 0, 0)
		none(r, 0, 40*dayLen)
		noDays(r, 0)
		noDays(r, 40*dayLen)
	}
	for _, r := range append(periodic(), plain(5), plain(6), plain(7)) {
		for _, at := range noMoment {
			none(r, 0, at)
			none(r, at, 0)
			none(r, at, at)
			noDays(r, at)
		}
	}
}

// roomy is the list in the midst of memory that has something else around it.
func roomy[T any](list []T, other T) ([]T, []T) {
	all := append([]T{other, other}, list...)
	all = append(all, other, other, other)
	return all[2 : 2+len(list)], all
}

// What is handed in stays as it is, what lies behind it too; what is answered
// shares nothing with it, nor with another answer.
func TestP6_4Memory(t *testing.T) {
	r := api.Rule{Freq: 1, Interval: 1}
	var alls [][]int
	for _, f := range []struct {
		list *[]int
		has  []int
	}{{&r.Month, []int{1, 2}}, {&r.YearDay, []int{-1, 1}}, {&r.MonthDay, []int{1, 31}}, {&r.Hour, []int{3, 4}}, {&r.Minute, []int{5}}, {&r.Second, []int{6, 7, 8}}, {&r.Pos, []int{1}}} {
		list, all := roomy(f.has, 1000)
		*f.list = list
		alls = append(alls, all)
	}
	days, allDays := roomy([]api.Day{{N: -1, W: 3}, {N: 0, W: 3}}, api.Day{N: 99, W: 99})
	r.Day = days
	was := make([][]int, len(alls))
	for i, all := range alls {
		was[i] = slices.Clone(all)
	}
	wasDays := slices.Clone(allDays)

	Fits(r, 0, 0)
	Period(r, 0, 0)
	Days(r, 0)
	for _, r := range []api.Rule{r, plain(4), plain(5), plain(6), plain(7)} {
		spoil(t, r)
	}
	for i, all := range alls {
		if !slices.Equal(all, was[i]) {
			t.Errorf("list %d is %v, was %v", i, all, was[i])
		}
	}
	if !slices.Equal(allDays, wasDays) {
		t.Errorf("days are %v, were %v", allDays, wasDays)
	}
	// What stands behind the lists is not looked at either.
	r.Hour, r.Minute, r.Second = r.Hour[:0], r.Minute[:0], r.Second[:0]
	holdTimes(t, r, 45296)
}

// spoil writes into each answer of Times, spare room too, and holds that no
// other one shows it.
func spoil(t *testing.T, r api.Rule) {
	t.Helper()
	var lists, want [][]int
	for range 3 {
		h, m, s := Times(r, 45296)
		lists = append(lists, h, m, s)
		want = append(want, slices.Clone(h), slices.Clone(m), slices.Clone(s))
	}
	for i, list := range lists {
		for j := i; j < len(lists); j++ {
			if !slices.Equal(lists[j], want[j]) {
				t.Fatalf("Times(%+v): list %d is %v, was %v", r, j, lists[j], want[j])
			}
		}
		list = list[:cap(list)]
		for k := range list {
			list[k] = -5
		}
	}
	holdTimes(t, r, 45296)
}

// Of Freq 1 to 4 the days of a period are those from its first to its last;
// periods never fall.
func TestP6_5(t *testing.T) {
	for _, r := range periodic() {
		for _, from := range []int{firstDay, -900, 19000, lastDay - 1799} {
			was := 0
			for n := from; n < from+1800; n++ {
				p, ok := Period(r, 0, n*dayLen)
				a, b := Days(r, n*dayLen+dayLen-1)
				if !ok || n > from && p < was || n < a || n > b {
					t.Fatalf("%+v: day %d: period %d behind %d, of %d to %d", r, n, p, was, a, b)
				}
				for m := max(a-1, firstDay); m <= min(b+1, lastDay); m += 1 + (b-a)/50 {
					if q, _ := Period(r, 0, m*dayLen); (q == p) != (m >= a && m <= b) {
						t.Fatalf("%+v: period of %d is %d, of %d is %d; %d to %d", r, n, p, m, q, a, b)
					}
				}
				if q, _ := Period(r, 0, min(b+1, lastDay)*dayLen); b < lastDay && q != p+1 {
					t.Fatalf("%+v: behind period %d, that ends with %d, comes %d", r, p, b, q)
				}
				was = p
			}
		}
	}
	for _, freq := range []int{5, 6, 7} {
		was := math.MinInt
		for at := -2 * dayLen; at < 2*dayLen; at += 7 {
			p, _ := Period(plain(freq), 0, at)
			a, b := Days(plain(freq), at)
			if p < was || a != b || at < a*dayLen || at >= (a+1)*dayLen {
				t.Fatalf("Freq %d: %d: period %d behind %d, of %d to %d", freq, at, p, was, a, b)
			}
			was = p
		}
	}
}

package civil

import (
	"math"
	"testing"

	"convoker/api"
)

// far holds numbers that are no year, month, day, weekday or day's number.
var far = []int{math.MinInt, math.MinInt + 1, math.MinInt32, -1 << 24, 1 << 24, math.MaxInt32, math.MaxInt - 1, math.MaxInt}

// none holds what is none of 1 to last.
func none(last int) []int {
	return append([]int{-1, 0, last + 1}, far...)
}

// leap is whether the year is a leap one, told without a division.
func leap(y int) bool {
	at := 0
	for _, step := range []int{400, 100, 4} {
		for at+step <= y {
			at += step
		}
		if at == y {
			return step != 100
		}
	}
	return false
}

// length is how many days a month 1 to 12 has.
func length(y, m int) int {
	if m == 2 && leap(y) {
		return 29
	}
	return []int{31, 28, 31, 30, 31, 30, 31, 31, 30, 31, 30, 31}[m-1]
}

// walk counts the calendar day by day, from 0001-01-01 to 9999-12-31.
func walk(f func(n, y, m, d, yday int)) {
	n := -719162
	for y := 1; y <= 9999; y++ {
		yday := 1
		for m := 1; m <= 12; m++ {
			for d := 1; d <= length(y, m); d++ {
				f(n, y, m, d, yday)
				n++
				yday++
			}
		}
	}
}

// mustDay is the number of a day that is.
func mustDay(t *testing.T, y, m, d int) int {
	t.Helper()
	n, e := Days(y, m, d)
	if e != api.OK {
		t.Fatalf("Days(%d, %d, %d): error %d", y, m, d, e)
	}
	return n
}

func TestP1_1Leap(t *testing.T) {
	for _, c := range []struct {
		y    int
		want bool
	}{
		{2024, true}, {2023, false}, {2025, false}, {2026, false}, {2000, true}, {1900, false}, {2100, false},
		{4, true}, {100, false}, {400, true}, {9996, true}, {9900, false}, {9600, true}, {1, false}, {9999, false},
		{0, true}, {-1, false}, {-4, true}, {-100, false}, {-400, true}, {10000, true},
		{math.MinInt32, true}, {math.MaxInt32, false}, {math.MinInt, true}, {math.MaxInt, false},
	} {
		if got := Leap(c.y); got != c.want {
			t.Errorf("Leap(%d) = %t", c.y, got)
		}
	}
	for y := 1; y <= 10000; y++ {
		if Leap(y) != leap(y) {
			t.Errorf("Leap(%d) = %t", y, Leap(y))
		}
	}
}

func TestP1_1Length(t *testing.T) {
	for y := 1; y <= 9999; y++ {
		for m := 1; m <= 12; m++ {
			if got := Length(y, m); got != length(y, m) {
				t.Errorf("Length(%d, %d) = %d", y, m, got)
			}
		}
	}
	for _, c := range [][3]int{{0, 2, 29}, {-1, 2, 28}, {-4, 2, 29}, {-100, 2, 28}, {10000, 2, 29}, {10001, 2, 28}, {math.MinInt, 2, 29}, {math.MaxInt, 2, 28}, {math.MaxInt, 12, 31}, {math.MinInt, 4, 30}} {
		if got := Length(c[0], c[1]); got != c[2] {
			t.Errorf("Length(%d, %d) = %d, not %d", c[0], c[1], got, c[2])
		}
	}
	for _, y := range append([]int{0, 1, 2024, 9999, 10000}, far...) {
		for _, m := range none(12) {
			if got := Length(y, m); got != 0 {
				t.Errorf("Length(%d, %d) = %d", y, m, got)
			}
		}
	}
}

func TestP1_1Valid(t *testing.T) {
	for _, y := range []int{1, 4, 100, 400, 1900, 2000, 2023, 2024, 9996, 9999} {
		for m := 1; m <= 12; m++ {
			last := length(y, m)
			for _, d := range []int{1, 2, last - 1, last} {
				if !Valid(y, m, d) {
					t.Errorf("Valid(%d, %d, %d) is false", y, m, d)
				}
			}
			for _, d := range none(last) {
				if Valid(y, m, d) {
					t.Errorf("Valid(%d, %d, %d) is true", y, m, d)
				}
			}
		}
		for _, m := range none(12) {
			if Valid(y, m, 0) || Valid(y, m, 1) {
				t.Errorf("Valid(%d, %d, ..) is true", y, m)
			}
		}
	}
	for _, y := range none(9999) {
		if Valid(y, 1, 1) || Valid(y, 12, 31) || Valid(y, 2, 29) {
			t.Errorf("Valid(%d, ..) is true", y)
		}
	}
}

func TestP1_2KnownDates(t *testing.T) {
	for _, c := range []struct{ y, m, d, n, wday, yday int }{
		{1970, 1, 1, 0, 3, 1}, {1969, 12, 31, -1, 2, 365}, {2000, 3, 1, 11017, 2, 61}, {2000, 2, 29, 11016, 1, 60},
		{2000, 12, 31, 11322, 6, 366}, {1900, 2, 28, -25509, 2, 59}, {1900, 3, 1, -25508, 3, 60},
		{2024, 2, 29, 19782, 3, 60}, {2024, 12, 31, 20088, 1, 366}, {2023, 12, 31, 19722, 6, 365},
		{1, 1, 1, -719162, 0, 1}, {1, 12, 31, -718798, 0, 365}, {9999, 1, 1, 2932532, 4, 1}, {9999, 12, 31, 2932896, 4, 365},
	} {
		if n, e := Days(c.y, c.m, c.d); n != c.n || e != api.OK {
			t.Errorf("Days(%d, %d, %d) = %d, %d", c.y, c.m, c.d, n, e)
		}
		if y, m, d, e := Date(c.n); y != c.y || m != c.m || d != c.d || e != api.OK {
			t.Errorf("Date(%d) = %d, %d, %d, %d", c.n, y, m, d, e)
		}
		if y, at, e := YearDay(c.n); y != c.y || at != c.yday || e != api.OK {
			t.Errorf("YearDay(%d) = %d, %d, %d", c.n, y, at, e)
		}
		if w := Weekday(c.n); w != c.wday {
			t.Errorf("Weekday(%d) = %d", c.n, w)
		}
	}
}

// Each day of all the years, in its order: of P1.2 and, there and back, of P1.5.
func TestP1_2P1_5EveryDay(t *testing.T) {
	faults, wday := 0, 0
	walk(func(n, y, m, d, yday int) {
		got, e := Days(y, m, d)
		yy, mm, dd, f := Date(n)
		y2, at, g := YearDay(n)
		ok := got == n && e == api.OK && yy == y && mm == m && dd == d && f == api.OK &&
			y2 == y && at == yday && g == api.OK && Weekday(n) == wday && Valid(y, m, d)
		if !ok && faults < 10 {
			faults++
			t.Errorf("%d-%d-%d, day %d: Days %d, Date %d-%d-%d, YearDay %d %d, Weekday %d", y, m, d, n, got, yy, mm, dd, y2, at, Weekday(n))
		}
		wday = (wday + 1) % 7
	})
}

func TestP1_2NoDate(t *testing.T) {
	refused := func(y, m, d int) {
		if n, e := Days(y, m, d); n != 0 || e != api.ErrRange {
			t.Errorf("Days(%d, %d, %d) = %d, %d", y, m, d, n, e)
		}
	}
	for _, y := range none(9999) {
		refused(y, 1, 1)
		refused(y, 12, 31)
	}
	for _, m := range none(12) {
		refused(2024, m, 1)
		refused(2024, m, 0)
	}
	for _, y := range []int{1, 100, 400, 1900, 2000, 2023, 2024, 9999} {
		for m := 1; m <= 12; m++ {
			for _, d := range none(length(y, m)) {
				refused(y, m, d)
			}
		}
	}
}

func TestP1_2NoDay(t *testing.T) {
	for _, n := range append([]int{-719163, -719164, -719528, 2932897, 2932898}, far...) {
		if y, m, d, e := Date(n); y != 0 || m != 0 || d != 0 || e != api.ErrRange {
			t.Errorf("Date(%d) = %d, %d, %d, %d", n, y, m, d, e)
		}
		if y, at, e := YearDay(n); y != 0 || at != 0 || e != api.ErrRange {
			t.Errorf("YearDay(%d) = %d, %d, %d", n, y, at, e)
		}
	}
}

func TestP1_2WeekdayOfAny(t *testing.T) {
	for _, c := range [][2]int{
		{0, 3}, {1, 4}, {3, 6}, {4, 0}, {7, 3}, {-1, 2}, {-3, 0}, {-4, 6}, {-7, 3},
		{-719163, 6}, {-719169, 0}, {2932897, 5}, {math.MaxInt, (math.MaxInt%7 + 3) % 7}, {math.MinInt, (math.MinInt%7 + 10) % 7},
	} {
		if w := Weekday(c[0]); w != c[1] {
			t.Errorf("Weekday(%d) = %d, not %d", c[0], w, c[1])
		}
	}
	for _, from := range []int{math.MinInt, -719180, -20, 2932880, math.MaxInt - 30} {
		for n := from; n < from+30; n++ {
			if Weekday(n+1) != (Weekday(n)+1)%7 {
				t.Errorf("Weekday(%d) = %d, Weekday(%d) = %d", n, Weekday(n), n+1, Weekday(n+1))
			}
		}
	}
}

func TestP1_3KnownWeeks(t *testing.T) {
	for _, c := range []struct{ y, m, d, wkst, year, week int }{
		{2021, 1, 3, 0, 2020, 53}, {2021, 1, 4, 0, 2021, 1}, {2021, 1, 3, 6, 2021, 1}, {2021, 1, 2, 6, 2020, 53},
		{2024, 12, 29, 0, 2024, 52}, {2024, 12, 30, 0, 2025, 1}, {2026, 12, 31, 0, 2026, 53}, {2027, 1, 3, 0, 2026, 53}, {2027, 1, 4, 0, 2027, 1},
		{1970, 1, 1, 0, 1970, 1}, {1969, 12, 29, 0, 1970, 1}, {1969, 12, 28, 0, 1969, 52},
		{2026, 1, 1, 3, 2026, 1}, {2026, 1, 1, 6, 2025, 53}, {2026, 1, 1, 5, 2025, 52},
		// Weeks that the years 0 and 10000 have.
		{1, 1, 1, 0, 1, 1}, {1, 1, 1, 4, 1, 1}, {1, 1, 1, 3, 0, 53}, {1, 1, 1, 2, 0, 53}, {1, 1, 1, 1, 0, 52}, {1, 1, 2, 1, 1, 1}, {1, 1, 3, 3, 0, 53}, {1, 1, 4, 3, 1, 1},
		{9999, 12, 31, 0, 9999, 52}, {9999, 12, 31, 2, 10000, 1}, {9999, 12, 29, 2, 10000, 1}, {9999, 12, 28, 2, 9999, 52}, {9999, 12, 31, 4, 10000, 1}, {9999, 12, 30, 4, 9999, 52},
	} {
		n := mustDay(t, c.y, c.m, c.d)
		if y, w, e := Week(n, c.wkst); y != c.year || w != c.week || e != api.OK {
			t.Errorf("Week of %d-%d-%d, wkst %d: %d, %d, %d, not %d, %d", c.y, c.m, c.d, c.wkst, y, w, e, c.year, c.week)
		}
	}
}

// owner is the year that four days or more of the week from lo on lie in; y is the year of lo, and next the first day of the year behind y.
func owner(lo, y, next int) int {
	if next-lo >= 4 {
		return y
	}
	return y + 1
}

// Every week of all the years, counted from the year 0 on by the words of the promise.
func TestP1_3EveryWeek(t *testing.T) {
	for wkst := range 7 {
		// The year 0 begins on a Saturday; the week ahead of it begins in the year -1.
		newYear, y := -719528, 0
		next := newYear + 366
		lo := newYear + (wkst+2)%7
		year, week := 0, 0
		if lo-newYear >= 4 {
			week = 1 // the week ahead of lo has four days or more of the year 0
		}
		for lo <= 2932896 {
			for lo >= next {
				y++
				next += 365
				if leap(y) {
					next++
				}
			}
			week++
			if o := owner(lo, y, next); o != year {
				checkWeeks(t, year, wkst, week-1)
				year, week = o, 1
			}
			checkWeek(t, lo, wkst, year, week)
			lo += 7
		}
		if year == 9999 {
			checkWeeks(t, year, wkst, week)
		}
	}
}

func checkWeeks(t *testing.T, y, wkst, want int) {
	t.Helper()
	if y < 1 {
		return
	}
	if got, e := Weeks(y, wkst); got != want || e != api.OK {
		t.Errorf("Weeks(%d, %d) = %d, %d, not %d", y, wkst, got, e, want)
	}
}

func checkWeek(t *testing.T, lo, wkst, year, week int) {
	t.Helper()
	for n := lo; n < lo+7; n++ {
		if n < -719162 || n > 2932896 {
			continue
		}
		if y, w, e := Week(n, wkst); y != year || w != week || e != api.OK {
			t.Fatalf("Week(%d, %d) = %d, %d, %d, not %d, %d", n, wkst, y, w, e, year, week)
		}
	}
}

func TestP1_3KnownYears(t *testing.T) {
	for _, c := range [][3]int{
		{2020, 0, 53}, {2021, 0, 52}, {2026, 0, 53}, {2015, 0, 53}, {2024, 0, 52}, {2026, 6, 52}, {2025, 6, 53},
		{1, 0, 52}, {1, 4, 53}, {1, 5, 52}, {9999, 0, 52}, {9999, 1, 53}, {9999, 2, 52},
	} {
		if got, e := Weeks(c[0], c[1]); got != c[2] || e != api.OK {
			t.Errorf("Weeks(%d, %d) = %d, %d, not %d", c[0], c[1], got, e, c[2])
		}
	}
}

func TestP1_3Refused(t *testing.T) {
	noWeekday := append([]int{-1, 7, 8}, far...)
	for _, wkst := range append([]int{0, 6}, noWeekday...) {
		for _, n := range append([]int{-719163, 2932897}, far...) {
			if y, w, e := Week(n, wkst); y != 0 || w != 0 || e != api.ErrRange {
				t.Errorf("Week(%d, %d) = %d, %d, %d", n, wkst, y, w, e)
			}
		}
		for _, y := range none(9999) {
			if got, e := Weeks(y, wkst); got != 0 || e != api.ErrRange {
				t.Errorf("Weeks(%d, %d) = %d, %d", y, wkst, got, e)
			}
		}
	}
	for _, wkst := range noWeekday {
		for _, n := range []int{-719162, 0, 2932896} {
			if y, w, e := Week(n, wkst); y != 0 || w != 0 || e != api.ErrRange {
				t.Errorf("Week(%d, %d) = %d, %d, %d", n, wkst, y, w, e)
			}
		}
		for _, y := range []int{1, 2026, 9999} {
			if got, e := Weeks(y, wkst); got != 0 || e != api.ErrRange {
				t.Errorf("Weeks(%d, %d) = %d, %d", y, wkst, got, e)
			}
		}
	}
}

func TestP1_4AddMonths(t *testing.T) {
	for _, c := range [][5]int{
		{2026, 1, 0, 2026, 1}, {2026, 1, 1, 2026, 2}, {2026, 12, 1, 2027, 1}, {2026, 1, -1, 2025, 12}, {2026, 11, -10, 2026, 1}, {2026, 11, -11, 2025, 12},
		{2026, 5, 12, 2027, 5}, {2026, 5, -12, 2025, 5}, {2026, 5, 19, 2027, 12}, {2026, 5, 20, 2028, 1}, {2026, 12, -24, 2024, 12},
		{1, 1, 0, 1, 1}, {9999, 12, 0, 9999, 12}, {1, 1, 119987, 9999, 12}, {9999, 12, -119987, 1, 1}, {1, 2, -1, 1, 1}, {9999, 11, 1, 9999, 12},
	} {
		if y, m, e := AddMonths(c[0], c[1], c[2]); y != c[3] || m != c[4] || e != api.OK {
			t.Errorf("AddMonths(%d, %d, %d) = %d, %d, %d", c[0], c[1], c[2], y, m, e)
		}
	}
	// Month by month, from either end, to all the months.
	for y, m, by := 1, 1, 0; y <= 9999; by++ {
		if yy, mm, e := AddMonths(1, 1, by); yy != y || mm != m || e != api.OK {
			t.Fatalf("AddMonths(1, 1, %d) = %d, %d, %d", by, yy, mm, e)
		}
		if yy, mm, e := AddMonths(9999, 12, by-119987); yy != y || mm != m || e != api.OK {
			t.Fatalf("AddMonths(9999, 12, %d) = %d, %d, %d", by-119987, yy, mm, e)
		}
		if m++; m > 12 {
			y, m = y+1, 1
		}
	}
}

func TestP1_4AddMonthsRefused(t *testing.T) {
	refused := func(y, m, by int) {
		if yy, mm, e := AddMonths(y, m, by); yy != 0 || mm != 0 || e != api.ErrRange {
			t.Errorf("AddMonths(%d, %d, %d) = %d, %d, %d", y, m, by, yy, mm, e)
		}
	}
	refused(1, 1, -1)
	refused(1, 12, -12)
	refused(9999, 12, 1)
	refused(9999, 1, 12)
	refused(1, 1, 119988)
	refused(9999, 12, -119988)
	for _, by := range far {
		refused(1, 1, by)
		refused(2026, 6, by)
		refused(9999, 12, by)
	}
	// A month that is none is none, though the one it would lead to is one.
	for _, by := range append([]int{-12, -1, 0, 1, 12}, far...) {
		for _, y := range none(9999) {
			refused(y, 1, by)
			refused(y, 12, by)
		}
		for _, m := range none(12) {
			refused(2026, m, by)
		}
	}
}

func TestP1_4KnownNths(t *testing.T) {
	for _, c := range [][5]int{
		{2026, 3, 1, 6, 1}, {2026, 3, 4, 6, 22}, {2026, 3, 5, 6, 29}, {2026, 3, 5, 5, 28}, {2026, 3, 1, 5, 7},
		{2026, 2, 5, 6, 22}, {2026, 2, 4, 6, 22}, {2026, 2, 1, 5, 7}, {2026, 2, 5, 5, 28},
		{2024, 2, 5, 3, 29}, {2024, 2, 5, 4, 23}, {2024, 2, 1, 2, 7},
		{1, 1, 1, 0, 1}, {1, 1, 5, 0, 29}, {9999, 12, 5, 4, 31}, {9999, 12, 5, 5, 25}, {9999, 12, 1, 5, 4},
	} {
		if d, e := Nth(c[0], c[1], c[2], c[3]); d != c[4] || e != api.OK {
			t.Errorf("Nth(%d, %d, %d, %d) = %d, %d, not %d", c[0], c[1], c[2], c[3], d, e, c[4])
		}
	}
}

// Each weekday of each month of all the years.
func TestP1_4EveryNth(t *testing.T) {
	var found [7][]int
	wday := 0
	walk(func(n, y, m, d, yday int) {
		if d == 1 {
			found = [7][]int{}
		}
		found[wday] = append(found[wday], d)
		wday = (wday + 1) % 7
		if d < length(y, m) || t.Failed() {
			return
		}
		for w, days := range found {
			for nth := 1; nth <= 5; nth++ {
				want := days[len(days)-1]
				if nth < 5 {
					want = days[nth-1]
				}
				if got, e := Nth(y, m, nth, w); got != want || e != api.OK {
					t.Errorf("Nth(%d, %d, %d, %d) = %d, %d, not %d", y, m, nth, w, got, e, want)
				}
			}
		}
	})
}

func TestP1_4NthRefused(t *testing.T) {
	refused := func(y, m, nth, wday int) {
		if d, e := Nth(y, m, nth, wday); d != 0 || e != api.ErrRange {
			t.Errorf("Nth(%d, %d, %d, %d) = %d, %d", y, m, nth, wday, d, e)
		}
	}
	for _, nth := range []int{1, 2, 3, 4, 5} {
		for _, wday := range []int{0, 6} {
			for _, y := range none(9999) {
				refused(y, 1, nth, wday)
				refused(y, 12, nth, wday)
			}
			for _, m := range none(12) {
				refused(2026, m, nth, wday)
			}
		}
		for _, wday := range append([]int{-1, 7}, far...) {
			refused(2026, 1, nth, wday)
		}
	}
	for _, nth := range none(5) {
		refused(2026, 1, nth, 0)
		refused(2026, 3, nth, 6)
	}
}

func TestP1_5DaysRise(t *testing.T) {
	last := -719163
	walk(func(n, y, m, d, yday int) {
		got, e := Days(y, m, d)
		if got <= last || e != api.OK {
			t.Fatalf("Days(%d, %d, %d) = %d, %d, behind %d", y, m, d, got, e, last)
		}
		last = got
	})
}

func TestP1_5AWeekLater(t *testing.T) {
	for n := -719162; n+7 <= 2932896; n++ {
		if Weekday(n+7) != Weekday(n) {
			t.Fatalf("Weekday(%d) = %d, a week later %d", n, Weekday(n), Weekday(n+7))
		}
		wkst := (n%7 + 7) % 7
		y, w, _ := Week(n, wkst)
		z, v, _ := Week(n+7, wkst)
		all, _ := Weeks(y, wkst)
		if y == 0 {
			all = w // of the year 0 Weeks tells nothing
		}
		if !(z == y && v == w+1) && !(z == y+1 && v == 1 && w == all) {
			t.Fatalf("Week(%d, %d) = %d, %d; a week later %d, %d", n, wkst, y, w, z, v)
		}
	}
}

package stamp

import (
	"fmt"
	"math"
	"regexp"
	"slices"
	"strconv"
	"strings"
	"testing"

	"convoker/api"
)

const (
	first = -62135596800 // 0001-01-01T00:00:00
	last  = 253402300799 // 9999-12-31T23:59:59
)

// far holds numbers that are no moment, and no part of a date or of a time.
var far = []int{math.MinInt, math.MinInt + 1, math.MinInt + 86400, -1 << 40, 1 << 40, math.MaxInt - 86400, math.MaxInt - 1, math.MaxInt}

// outside holds what is none of lo to hi.
func outside(lo, hi int) []int {
	return append([]int{lo - 1, lo - 2, hi + 1, hi + 2}, far...)
}

// known has moments and their parts, worked out by hand.
var known = []struct {
	y, mo, d, h, mi, s, t, day, sec int
	text                            string
}{
	{1970, 1, 1, 0, 0, 0, 0, 0, 0, "19700101T000000"},
	{1970, 1, 1, 23, 59, 59, 86399, 0, 86399, "19700101T235959"},
	{1970, 1, 2, 0, 0, 0, 86400, 1, 0, "19700102T000000"},
	{1970, 1, 2, 3, 4, 5, 97445, 1, 11045, "19700102T030405"},
	{1969, 12, 31, 23, 59, 59, -1, -1, 86399, "19691231T235959"},
	{1969, 12, 31, 0, 0, 0, -86400, -1, 0, "19691231T000000"},
	{1969, 12, 30, 23, 59, 59, -86401, -2, 86399, "19691230T235959"},
	{2000, 3, 1, 0, 0, 0, 951868800, 11017, 0, "20000301T000000"},
	{2000, 2, 29, 12, 30, 45, 951827445, 11016, 45045, "20000229T123045"},
	{2009, 2, 13, 23, 31, 30, 1234567890, 14288, 84690, "20090213T233130"},
	{2001, 9, 9, 1, 46, 40, 1000000000, 11574, 6400, "20010909T014640"},
	{2038, 1, 19, 3, 14, 8, 1 << 31, 24855, 11648, "20380119T031408"},
	{1, 1, 1, 0, 0, 0, first, -719162, 0, "00010101T000000"},
	{1, 1, 1, 0, 0, 1, first + 1, -719162, 1, "00010101T000001"},
	{9999, 12, 31, 23, 59, 59, last, 2932896, 86399, "99991231T235959"},
	{9999, 12, 31, 0, 0, 0, last - 86399, 2932896, 0, "99991231T000000"},
}

// length is how many days a month 1 to 12 has.
func length(y, m int) int {
	if m == 2 && y%4 == 0 && (y%100 != 0 || y%400 == 0) {
		return 29
	}
	return []int{31, 28, 31, 30, 31, 30, 31, 31, 30, 31, 30, 31}[m-1]
}

// walk counts the moments at which the days begin, from 0001-01-01 to 9999-12-31.
func walk(f func(t, n, y, m, d int)) {
	t, n := first, -719162
	for y := 1; y <= 9999; y++ {
		for m := 1; m <= 12; m++ {
			for d := 1; d <= length(y, m); d++ {
				f(t, n, y, m, d)
				t, n = t+86400, n+1
			}
		}
	}
}

func TestP2_1Known(t *testing.T) {
	for _, c := range known {
		if got, e := Make(c.y, c.mo, c.d, c.h, c.mi, c.s); got != c.t || e != api.OK {
			t.Errorf("Make(%d, %d, %d, %d, %d, %d) = %d, %d", c.y, c.mo, c.d, c.h, c.mi, c.s, got, e)
		}
		if n, s := Day(c.t); n != c.day || s != c.sec {
			t.Errorf("Day(%d) = %d, %d", c.t, n, s)
		}
		if !May(c.t) {
			t.Errorf("May(%d) is false", c.t)
		}
	}
}

// Each day of all the years, at its ends and somewhere between.
func TestP2_1EveryDay(t *testing.T) {
	walk(func(lo, n, y, m, d int) {
		h, mi, s := (n%24+24)%24, (n%60+60)%60, (n%59+59)%59
		for _, c := range [][3]int{{0, 0, 0}, {23, 59, 59}, {h, mi, s}} {
			at := c[0]*3600 + c[1]*60 + c[2]
			if got, e := Make(y, m, d, c[0], c[1], c[2]); got != lo+at || e != api.OK {
				t.Fatalf("Make(%d, %d, %d, %d, %d, %d) = %d, %d, not %d", y, m, d, c[0], c[1], c[2], got, e, lo+at)
			}
			if day, sec := Day(lo + at); day != n || sec != at {
				t.Fatalf("Day(%d) = %d, %d, not %d, %d", lo+at, day, sec, n, at)
			}
			if !May(lo + at) {
				t.Fatalf("May(%d) is false", lo+at)
			}
		}
	})
}

// Each second of a few days.
func TestP2_1P2_2EverySecond(t *testing.T) {
	for _, c := range []struct{ t, n, y, m, d int }{{0, 0, 1970, 1, 1}, {-86400, -1, 1969, 12, 31}, {first, -719162, 1, 1, 1}, {last - 86399, 2932896, 9999, 12, 31}} {
		at := 0
		for h := range 24 {
			for mi := range 60 {
				for s := range 60 {
					want := fmt.Sprintf("%04d%02d%02dT%02d%02d%02d", c.y, c.m, c.d, h, mi, s)
					got, e := Make(c.y, c.m, c.d, h, mi, s)
					n, sec := Day(c.t + at)
					text, f := Text(c.t + at)
					back, g := Parse(want)
					if got != c.t+at || e != api.OK || n != c.n || sec != at || text != want || f != api.OK || back != c.t+at || g != api.OK {
						t.Fatalf("%s: Make %d, Day %d %d, Text %q, Parse %d", want, got, n, sec, text, back)
					}
					at++
				}
			}
		}
	}
}

func TestP2_1MakeRefused(t *testing.T) {
	refused := func(y, mo, d, h, mi, s int) {
		if got, e := Make(y, mo, d, h, mi, s); got != 0 || e != api.ErrRange {
			t.Errorf("Make(%d, %d, %d, %d, %d, %d) = %d, %d", y, mo, d, h, mi, s, got, e)
		}
	}
	for _, y := range outside(1, 9999) {
		refused(y, 1, 1, 0, 0, 0)
		refused(y, 12, 31, 23, 59, 59)
	}
	for _, m := range outside(1, 12) {
		refused(2026, m, 1, 0, 0, 0)
	}
	for _, c := range [][2]int{{2026, 2}, {2024, 2}, {1900, 2}, {2026, 1}, {2026, 4}} {
		for _, d := range outside(1, length(c[0], c[1])) {
			refused(c[0], c[1], d, 0, 0, 0)
		}
	}
	for _, h := range outside(0, 23) {
		refused(2026, 2, 3, h, 0, 0)
		refused(2026, 2, 3, h, 59, 59)
	}
	for _, x := range outside(0, 59) {
		refused(2026, 2, 3, 0, x, 0)
		refused(2026, 2, 3, 23, x, 59)
		refused(2026, 2, 3, 0, 0, x)
		refused(2026, 2, 3, 23, 59, x)
	}
	refused(1969, 12, 32, -24, 0, 0) // the moments would be some
	refused(1970, 1, 1, 1, -60, 0)
	refused(1970, 1, 1, 0, 1, -60)
}

func TestP2_1May(t *testing.T) {
	for _, n := range []int{first, first + 1, -1, 0, 1, last - 1, last} {
		if !May(n) {
			t.Errorf("May(%d) is false", n)
		}
	}
	for _, n := range outside(first, last) {
		if May(n) {
			t.Errorf("May(%d) is true", n)
		}
	}
}

func TestP2_1DayOfAny(t *testing.T) {
	for _, c := range [][3]int{
		{first - 1, -719163, 86399}, {first - 86400, -719163, 0}, {last + 1, 2932897, 0}, {last + 86400, 2932897, 86399},
		{-1 << 40, -12725830, 84224}, {1 << 40, 12725829, 2176},
		{math.MaxInt, 106751991167300, 55807}, {math.MinInt, -106751991167301, 30592}, {math.MinInt + 1, -106751991167301, 30593},
	} {
		if n, s := Day(c[0]); n != c[1] || s != c[2] {
			t.Errorf("Day(%d) = %d, %d, not %d, %d", c[0], n, s, c[1], c[2])
		}
	}
	// A second later is the next second, or the next day.
	for _, from := range []int{math.MinInt, first - 100000, -100000, last - 100000, math.MaxInt - 200000} {
		n, s := Day(from)
		for at := from + 1; at < from+200000; at++ {
			if s++; s == 86400 {
				n, s = n+1, 0
			}
			if gn, gs := Day(at); gn != n || gs != s {
				t.Fatalf("Day(%d) = %d, %d, not %d, %d", at, gn, gs, n, s)
			}
		}
	}
}

func TestP2_1Add(t *testing.T) {
	for _, c := range [][3]int{
		{5, 7, 12}, {5, -7, -2}, {0, 0, 0}, {97445, 86400, 183845}, {97445, -97446, -1},
		{last, 0, last}, {first, 0, first}, {last - 1, 1, last}, {first + 1, -1, first}, {0, last, last}, {0, first, first},
		{first, last - first, last}, {last, first - last, first}, {first, 1, first + 1}, {last, -1, last - 1},
	} {
		if got, e := Add(c[0], c[1]); got != c[2] || e != api.OK {
			t.Errorf("Add(%d, %d) = %d, %d, not %d", c[0], c[1], got, e, c[2])
		}
	}
}

func TestP2_1AddRefused(t *testing.T) {
	refused := func(at, n int) {
		if got, e := Add(at, n); got != 0 || e != api.ErrRange {
			t.Errorf("Add(%d, %d) = %d, %d", at, n, got, e)
		}
	}
	refused(last, 1)
	refused(first, -1)
	refused(first, last-first+1)
	refused(last, first-last-1)
	refused(0, last+1)
	refused(0, first-1)
	for _, n := range far {
		refused(0, n)
		refused(first, n)
		refused(last, n)
	}
	// A moment that may not be is none, though the one it would lead to may be.
	for _, at := range outside(first, last) {
		for _, n := range append([]int{-2, -1, 0, 1, 2, -at, last - at, first - at}, far...) {
			refused(at, n)
		}
	}
}

func TestP2_2Known(t *testing.T) {
	for _, c := range known {
		if s, e := Text(c.t); s != c.text || e != api.OK {
			t.Errorf("Text(%d) = %q, %d", c.t, s, e)
		}
		if n, e := Parse(c.text); n != c.t || e != api.OK {
			t.Errorf("Parse(%q) = %d, %d", c.text, n, e)
		}
	}
}

func TestP2_2TextRefused(t *testing.T) {
	for _, n := range outside(first, last) {
		if s, e := Text(n); s != "" || e != api.ErrRange {
			t.Errorf("Text(%d) = %q, %d", n, s, e)
		}
	}
}

// refused holds that Parse answers the error of s, and nothing else.
func refused(t *testing.T, s string, want api.Errno) {
	t.Helper()
	if n, e := Parse(s); n != 0 || e != want {
		t.Errorf("Parse(%q) = %d, %d, not %d", s, n, e, want)
	}
}

func TestP2_2ParseLengths(t *testing.T) {
	whole := "20260203T040506"
	for n := range len(whole) {
		refused(t, whole[:n], api.ErrShort)
		refused(t, strings.Repeat("x", n), api.ErrShort)
		refused(t, strings.Repeat("9", n), api.ErrShort)
	}
	for _, more := range []string{"0", "Z", " ", "\n", "\x00", whole, strings.Repeat("0", 1<<16)} {
		refused(t, whole+more, api.ErrForm)
		refused(t, more+whole, api.ErrForm)
		refused(t, "20260230T000000"+more, api.ErrForm)
	}
}

// Each byte at each place of a text: the form comes ahead of the numbers.
func TestP2_2ParseForm(t *testing.T) {
	for _, whole := range []string{"20260203T040506", "20269999T999999", "00000000T000000"} {
		for i := range len(whole) {
			for c := range 256 {
				s := whole[:i] + string([]byte{byte(c)}) + whole[i+1:]
				made := c >= '0' && c <= '9'
				if i == 8 {
					made = c == 'T'
				}
				if _, e := Parse(s); (e == api.ErrForm) == made {
					t.Errorf("Parse(%q): error %d", s, e)
				}
				if !made {
					refused(t, s, api.ErrForm)
				}
			}
		}
	}
	for _, s := range []string{"2026020304050607", "202602030405067", "T20260203040506", "2026-02-03T0405", "20260203 040506", "2026020T3040506", "202602030T40506", "２026020T040506", " 2026023T040506", "-0010203T040506", "+0260203T040506", "20260203T04050_"} {
		refused(t, s, api.ErrForm)
	}
}

func TestP2_2ParseRange(t *testing.T) {
	for _, s := range []string{
		"00000101T000000", "20260001T000000", "20261301T000000", "20260100T000000", "20260132T000000", "20260230T000000", "20260229T000000", "19000229T000000", "20260431T000000",
		"20260203T240000", "20260203T990000", "20260203T006000", "20260203T009900", "20260203T000060", "20260203T000099", "20269999T999999", "00000000T000000",
	} {
		refused(t, s, api.ErrRange)
	}
	for _, s := range []string{"20240229T000000", "20000229T000000"} {
		if _, e := Parse(s); e != api.OK {
			t.Errorf("Parse(%q): error %d", s, e)
		}
	}
}

// knownDurs has durations and their texts, worked out by hand.
var knownDurs = []struct {
	n    int
	text string
}{
	{1, "PT1S"}, {59, "PT59S"}, {60, "PT1M"}, {61, "PT1M1S"}, {600, "PT10M"}, {3599, "PT59M59S"}, {3600, "PT1H"}, {3601, "PT1H1S"}, {3660, "PT1H1M"}, {5400, "PT1H30M"}, {36000, "PT10H"},
	{86399, "PT23H59M59S"}, {86400, "P1D"}, {86401, "P1DT1S"}, {86460, "P1DT1M"}, {90000, "P1DT1H"}, {90061, "P1DT1H1M1S"},
	{604799, "P6DT23H59M59S"}, {604800, "P1W"}, {604801, "P7DT1S"}, {691200, "P8D"}, {1209600, "P2W"}, {864000, "P10D"}, {6048000, "P10W"}, {1209660, "P14DT1M"}, {1213200, "P14DT1H"},
	{1<<31 - 1, "P24855DT3H14M7S"}, {1 << 31, "P24855DT3H14M8S"}, {2147472000, "P24855D"}, {2147040000, "P3550W"},
}

func TestP2_3Known(t *testing.T) {
	for _, c := range knownDurs {
		if s, e := DurText(c.n); s != c.text || e != api.OK {
			t.Errorf("DurText(%d) = %q, %d, not %q", c.n, s, e, c.text)
		}
		if n, e := DurParse(c.text); n != c.n || e != api.OK {
			t.Errorf("DurParse(%q) = %d, %d, not %d", c.text, n, e, c.n)
		}
	}
}

// unit is a number and its unit, and nothing of 0.
func unit(n int, u string) string {
	if n == 0 {
		return ""
	}
	return strconv.Itoa(n) + u
}

// durations counts the seconds of so many days from a day on, with the words of the promise.
func durations(from, days int, f func(n int, text string)) {
	n := from * 86400
	for d := from; d < from+days; d++ {
		for h := range 24 {
			for m := range 60 {
				for s := range 60 {
					text := "P" + unit(d, "D")
					if h+m+s > 0 {
						text += "T" + unit(h, "H") + unit(m, "M") + unit(s, "S")
					} else if d%7 == 0 {
						text = "P" + unit(d/7, "W")
					}
					if n > 0 {
						f(n, text)
					}
					n++
				}
			}
		}
	}
}

func TestP2_3EverySecond(t *testing.T) {
	for _, from := range []int{0, 20, 97, 999, 9999, 24850} {
		durations(from, 3, func(n int, text string) {
			s, e := DurText(n)
			back, f := DurParse(text)
			if s != text || e != api.OK || back != n || f != api.OK {
				t.Fatalf("%d: DurText %q, %d, not %q; DurParse %d, %d", n, s, e, text, back, f)
			}
		})
	}
}

func TestP2_3EveryDay(t *testing.T) {
	for d := 1; d <= 24855; d++ {
		want := unit(d, "D")
		if d%7 == 0 {
			want = unit(d/7, "W")
		}
		s, e := DurText(d * 86400)
		back, f := DurParse("P" + want)
		if s != "P"+want || e != api.OK || back != d*86400 || f != api.OK {
			t.Fatalf("%d days: DurText %q, %d; DurParse %d, %d", d, s, e, back, f)
		}
		if d%7 == 0 {
			noDuration(t, "P"+unit(d, "D"))
		}
	}
}

func TestP2_3TextRefused(t *testing.T) {
	for _, n := range append(outside(1, 1<<31), -60, -86400, -604800, 1<<31+604800, 1<<32) {
		if s, e := DurText(n); s != "" || e != api.ErrRange {
			t.Errorf("DurText(%d) = %q, %d", n, s, e)
		}
	}
}

// noDuration holds that s, which isn't empty, is read as nothing.
func noDuration(t *testing.T, s string) {
	t.Helper()
	if n, e := DurParse(s); n != 0 || e != api.ErrForm {
		t.Errorf("DurParse(%.60q) = %d, %d", s, n, e)
	}
}

func TestP2_3ParseRefused(t *testing.T) {
	if n, e := DurParse(""); n != 0 || e != api.ErrShort {
		t.Errorf("DurParse of nothing = %d, %d", n, e)
	}
	for _, s := range []string{
		"P", "T", "PT", "0", "1", "S", " ", "\x00", "1S", "T1S", "PT1", "P1", "P1DT", "P1WT", "PTS", "PS", "PD", "PW", // something is lacking
		"PT60S", "PT60M", "PT24H", "P7D", "P14D", "PT90S", "PT168H", "P1DT24H", "P7DT60S", // another way to write it
		"PT0S", "P0D", "P0W", "PT1H0M", "PT1H0M1S", "P0DT1S", "P1DT0S", "PT1H30M0S", "PT01S", "P01D", "P01W", "PT00S", "PT1H01M", // zeros
		"P1WT1S", "P1W1D", "P1D1W", "P1DT1W", "PT1W", "P8DT1W", // weeks stand alone
		"PT1M1H", "PT1S1M", "PT1S1H", "PT1HP1D", "PT1H1D", "PT1D", "P1H", "P1M", "P1S", "P1D1H", "P1DT1HT1M", "PTT1S", "PP1D", "TP1S", // out of order
		"P1D1D", "PT1H1H", "PT1S1S", "P1W1W", "PT1M1M", // twice
		"pt1s", "Pt1S", "pT1S", "PT1s", "p1d", "P1d", "P1w", // small letters
		"-PT1S", "+PT1S", "PT-1S", "PT+1S", "P-1D", "P+1D", "P-1W", "P-1DT90000S", // signs
		" PT1S", "PT1S ", "P T1S", "PT 1S", "PT1 S", "PT1S\n", "PT1S\x00", "\x00PT1S", "PT1.5S", "PT1,5S", "P1Y", "P1Y1D", "PT1X", "PT٣S", "PT1\xffS", // other bytes
		"PT1S5", "P1D5", "P1W0", "1PT1S", "P1T1S", "P1DT1", // a number without a unit
		"P24855DT3H14M9S", "P24855DT3H15M", "P24856D", "P3551W", "PT2147483648S", "PT2147483649S", "PT4294967297S", // too much
		"P99999999999D", "PT9999999999999999999999S", "PT18446744073709551617S", "P30500568904944W", "PT340282366920938463463374607431768211457S",
	} {
		noDuration(t, s)
	}
	for _, s := range []string{"9", "0", "P", "T", "1W", "P1D", "PT1S", "4294967296W"} {
		noDuration(t, strings.Repeat(s, 1<<16))
		noDuration(t, "PT1S"+strings.Repeat(s, 1<<16))
		noDuration(t, "P"+strings.Repeat(s, 1<<16)+"1W")
	}
}

var (
	weeks = regexp.MustCompile(`^P([1-9][0-9]{0,3})W$`)
	parts = regexp.MustCompile(`^P(?:([1-9][0-9]{0,4})D)?(T(?:([1-9]|1[0-9]|2[0-3])H)?(?:([1-9]|[1-5][0-9])M)?(?:([1-9]|[1-5][0-9])S)?)?$`)
)

// meant is the duration that s writes, by the form of what DurText writes; 0 if there is none.
func meant(s string) int {
	at := func(s string) int {
		n, _ := strconv.Atoi(s)
		return n
	}
	n := 0
	if m := weeks.FindStringSubmatch(s); m != nil {
		n = at(m[1]) * 604800
	} else if m := parts.FindStringSubmatch(s); m != nil && m[2] != "T" {
		if m[2] == "" && at(m[1])%7 == 0 {
			return 0
		}
		n = at(m[1])*86400 + at(m[3])*3600 + at(m[4])*60 + at(m[5])
	}
	if n > 1<<31 {
		return 0
	}
	return n
}

func checkMeant(t *testing.T, s string) {
	t.Helper()
	want := meant(s)
	if want == 0 {
		noDuration(t, s)
	} else if n, e := DurParse(s); n != want || e != api.OK {
		t.Errorf("DurParse(%q) = %d, %d, not %d", s, n, e, want)
	}
}

// All texts of up to six bytes that stand in durations.
func TestP2_3P2_4EveryShortText(t *testing.T) {
	all := []string{""}
	for range 6 {
		var more []string
		for _, s := range all {
			for _, c := range "PTWDHMS017" {
				more = append(more, s+string(c))
			}
		}
		for _, s := range more {
			checkMeant(t, s)
		}
		all = more
	}
}

// Each text that is one byte off a known one.
func TestP2_3P2_4OneByteOff(t *testing.T) {
	for _, c := range knownDurs {
		for i := range len(c.text) {
			checkMeant(t, c.text[:i]+c.text[i+1:])
			for b := range 256 {
				at := string([]byte{byte(b)})
				checkMeant(t, c.text[:i]+at+c.text[i+1:])
				checkMeant(t, c.text[:i]+at+c.text[i:])
			}
		}
		for b := range 256 {
			checkMeant(t, c.text+string([]byte{byte(b)}))
		}
	}
}

// Each day of all the years, at one of its seconds: there and back, and rising.
func TestP2_2P2_4EveryDay(t *testing.T) {
	before := ""
	walk(func(lo, n, y, m, d int) {
		at := (n%86400 + 86400) % 86400
		want := fmt.Sprintf("%04d%02d%02dT%02d%02d%02d", y, m, d, at/3600, at/60%60, at%60)
		s, e := Text(lo + at)
		back, f := Parse(want)
		if s != want || e != api.OK || back != lo+at || f != api.OK {
			t.Fatalf("Text(%d) = %q, %d; Parse(%q) = %d, %d", lo+at, s, e, want, back, f)
		}
		if s <= before {
			t.Fatalf("Text(%d) = %q, not behind %q", lo+at, s, before)
		}
		before = s
	})
}

// What is read is written just so, and texts rise with moments wherever they lie.
func TestP2_4ReadAndWritten(t *testing.T) {
	var read []string
	for _, whole := range []string{"20260203T040506", "99991231T235959", "00010101T000000", "20000229T120000"} {
		for i := range len(whole) {
			for c := range 256 {
				s := whole[:i] + string([]byte{byte(c)}) + whole[i+1:]
				n, e := Parse(s)
				if e != api.OK {
					continue
				}
				if back, f := Text(n); back != s || f != api.OK {
					t.Errorf("Parse(%q) = %d, Text of it %q, %d", s, n, back, f)
				}
				read = append(read, s)
			}
		}
	}
	slices.Sort(read)
	read = slices.Compact(read)
	if len(read) < 100 {
		t.Fatalf("only %d texts are read", len(read))
	}
	for i := 1; i < len(read); i++ {
		a, _ := Parse(read[i-1])
		b, _ := Parse(read[i])
		if a >= b {
			t.Errorf("Parse(%q) = %d, Parse(%q) = %d", read[i-1], a, read[i], b)
		}
	}
}

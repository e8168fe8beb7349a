package member

import (
	"math"
	"math/rand"
	"slices"
	"strings"
	"testing"
	"time"

	"convoker/api"
	"convoker/days"
	"convoker/rule"
	"convoker/stamp"
)

const (
	firstDay    = -719162 // 0001-01-01
	lastDay     = 2932896 // 9999-12-31
	firstMoment = firstDay * day
	lastMoment  = lastDay*day + day - 1
)

// noMoment holds numbers that are no moment.
var noMoment = []int{firstMoment - 1, lastMoment + 1, math.MinInt, math.MinInt + 1, -1 << 50, 1 << 50, math.MaxInt - 1, math.MaxInt}

func at(t *testing.T, s string) int {
	t.Helper()
	n, e := stamp.Parse(s)
	if e != api.OK {
		t.Fatalf("%s: error %d", s, e)
	}
	return n
}

func atAll(t *testing.T, s string) []int {
	t.Helper()
	var all []int
	for _, text := range strings.Fields(s) {
		all = append(all, at(t, text))
	}
	return all
}

func read(t *testing.T, s string) api.Rule {
	t.Helper()
	r, _, e := rule.Parse(s)
	if e != api.OK {
		t.Fatalf("%s: error %d", s, e)
	}
	return r
}

func told(r api.Rule) string {
	s, _ := rule.Print(r)
	return s
}

func plain(freq int) api.Rule { return api.Rule{Freq: freq, Interval: 1} }

func upto(lo, hi int) []int {
	var all []int
	for n := lo; n <= hi; n++ {
		if n != 0 || lo == 0 {
			all = append(all, n)
		}
	}
	return all
}

func week() []api.Day { return []api.Day{{W: 0}, {W: 1}, {W: 2}, {W: 3}, {W: 4}, {W: 5}, {W: 6}} }

// floor is how often by goes into n, below 0 too.
func floor(n, by int) int {
	q := n / by
	for q*by > n {
		q--
	}
	return q
}

func clock(t int) time.Time { return time.Unix(int64(t), 0).UTC() }

// weekYear is the year that most days of the week from the day on lie in.
func weekYear(first int) int { return clock((first + 3) * day).Year() }

// number is a number of the moment's period: the next period has the next one.
func number(r api.Rule, t int) int {
	c, n := clock(t), floor(t, day)
	switch r.Freq {
	case 1:
		if len(r.Week) == 0 {
			return c.Year()
		}
		first := n
		for (int(clock(first*day).Weekday())+6)%7 != r.Wkst {
			first--
		}
		return weekYear(first)
	case 2:
		return c.Year()*12 + int(c.Month())
	case 3:
		return floor(n+3-r.Wkst, 7) // day 0 is a Thursday
	case 4:
		return n
	case 5:
		return floor(t, 3600)
	case 6:
		return floor(t, 60)
	}
	return t
}

// model tells word by word what the chapter says of a rule and a start that
// may be.
type model struct {
	r       api.Rule
	start   int
	seconds []int // those of a day
}

func modelOf(r api.Rule, start int) *model {
	m := &model{r: r, start: start}
	c := clock(start)
	takes := func(list []int, alone bool, own, n int) bool {
		if len(list) > 0 {
			return slices.Contains(list, n)
		}
		return !alone || n == own
	}
	for s := range day {
		if takes(r.Hour, r.Freq <= 4, c.Hour(), s/3600) && takes(r.Minute, r.Freq <= 5, c.Minute(), s/60%60) && takes(r.Second, r.Freq <= 6, c.Second(), s%60) {
			m.seconds = append(m.seconds, s)
		}
	}
	return m
}

func (m *model) raw(t int) bool {
	n := floor(t, day)
	_, taken := slices.BinarySearch(m.seconds, t-n*day)
	return taken && (number(m.r, t)-number(m.r, m.start))%m.r.Interval == 0 && days.Fits(m.r, m.start, n)
}

// set is all raw moments of the period, looked for in all days that may be of
// it.
func (m *model) set(t int) []int {
	p := number(m.r, t)
	if (p-number(m.r, m.start))%m.r.Interval != 0 {
		return nil
	}
	n, reach := floor(t, day), []int{0, 375, 32, 7, 1, 0, 0, 0}[m.r.Freq]
	var all []int
	for d := max(n-reach, firstDay); d <= min(n+reach, lastDay); d++ {
		if m.r.Freq <= 4 && number(m.r, d*day) != p || !days.Fits(m.r, m.start, d) {
			continue
		}
		for _, s := range m.seconds {
			if m.r.Freq <= 4 || number(m.r, d*day+s) == p {
				all = append(all, d*day+s)
			}
		}
	}
	return all
}

func (m *model) has(t int) bool {
	if t < m.start || m.r.Ends && t > m.r.Until || !m.raw(t) {
		return false
	}
	if len(m.r.Pos) == 0 {
		return true
	}
	all := m.set(t)
	front := 1
	for all[front-1] != t {
		front++
	}
	back := front - len(all) - 1
	return len(all) <= 100000 && (slices.Contains(m.r.Pos, front) || slices.Contains(m.r.Pos, back))
}

// holdSet holds Set of the moment at the given most and where it is just as
// many, or one less; what is in it.
func (m *model) holdSet(t *testing.T, at int) []int {
	t.Helper()
	want := m.set(at)
	for _, most := range []int{100000, len(want), len(want) - 1, 1} {
		got, e := Set(m.r, m.start, at, most)
		switch {
		case most < 1:
			if len(got) > 0 || e != api.ErrRange {
				t.Fatalf("%s from %d: Set of %d, most %d: %v, %d", told(m.r), m.start, at, most, got, e)
			}
		case most < len(want):
			if len(got) > 0 || e != api.ErrMany {
				t.Fatalf("%s from %d: Set of %d, most %d of %d: %v, %d", told(m.r), m.start, at, most, len(want), got, e)
			}
		case !slices.Equal(got, want) || e != api.OK:
			t.Fatalf("%s from %d: Set of %d is %v, %d, not %v", told(m.r), m.start, at, got, e, want)
		}
	}
	return want
}

// holdAt holds Raw and Has of the moment; whether they say so.
func (m *model) holdAt(t *testing.T, at int) (bool, bool) {
	t.Helper()
	raw, has := m.raw(at), m.has(at)
	if gotRaw, gotHas := Raw(m.r, m.start, at), Has(m.r, m.start, at); gotRaw != raw || gotHas != has {
		t.Fatalf("%s from %d: at %d Raw is %t, Has %t, not %t, %t", told(m.r), m.start, at, gotRaw, gotHas, raw, has)
	}
	return raw, has
}

// some takes some of the numbers, of each about one in the given number, but
// no more than 60.
func some(rnd *rand.Rand, all []int, one int) []int {
	var out []int
	for _, n := range all {
		if rnd.Intn(one) == 0 && len(out) < 60 {
			out = append(out, n)
		}
	}
	return out
}

func someDays(rnd *rand.Rand, freq int) []api.Day {
	var out []api.Day
	for n := -53; n <= 53; n++ {
		for w := range 7 {
			often := n == 0 && rnd.Intn(2) == 0
			seldom := n != 0 && freq <= 2 && rnd.Intn(30) == 0
			if (often || seldom) && len(out) < 60 {
				out = append(out, api.Day{N: n, W: w})
			}
		}
	}
	return out
}

// random is a rule that may be, with any of the lists, and few periods left
// out.
func random(rnd *rand.Rand, freq int) api.Rule {
	for {
		r := api.Rule{Freq: freq, Interval: 1 + rnd.Intn(3), Wkst: rnd.Intn(7)}
		for _, f := range []struct {
			list        *[]int
			lo, hi, one int
		}{{&r.Month, 1, 12, 2}, {&r.Week, -53, 53, 4}, {&r.YearDay, -366, 366, 13}, {&r.MonthDay, -31, 31, 3}, {&r.Hour, 0, 23, 8}, {&r.Minute, 0, 59, 20}, {&r.Second, 0, 59, 20}, {&r.Pos, -12, 12, 3}} {
			if rnd.Intn(4) == 0 {
				*f.list = some(rnd, upto(f.lo, f.hi), 1+rnd.Intn(f.one))
			}
		}
		if rnd.Intn(4) == 0 {
			r.Day = someDays(rnd, freq)
		}
		if rnd.Intn(4) == 0 {
			r.Count = rnd.Intn(4097)
		}
		if rule.May(r) {
			return r
		}
	}
}

// span is about how long the rule's period is.
func span(r api.Rule) int { return []int{0, 366 * day, 31 * day, 7 * day, day, 3600, 60, 1}[r.Freq] }

// near is a moment that may be, no more than four of the rule's periods away.
func near(rnd *rand.Rand, r api.Rule, t int) int {
	reach := 4 * r.Interval * span(r)
	return min(max(t+rnd.Intn(2*reach+1)-reach, firstMoment), lastMoment)
}

// Random rules, from moments of all years: their sets, and what is said of
// moments in these, beside them and of others.
func TestP7_1P7_2P7_3Random(t *testing.T) {
	rnd := rand.New(rand.NewSource(7))
	sets, raws, hases, others := 0, 0, 0, 0
	for i := range 3500 {
		r := random(rnd, 1+i%7)
		start := firstMoment + rnd.Intn(lastMoment-firstMoment+1)
		if i%5 == 0 {
			start = []int{firstMoment, lastMoment - day}[i/5%2] + rnd.Intn(day)
		}
		if r.Count == 0 && rnd.Intn(3) == 0 {
			r.Ends, r.Until = true, near(rnd, r, start)
		}
		m := modelOf(r, start)
		for range 3 {
			moments := []int{start, near(rnd, r, start)}
			all := m.holdSet(t, near(rnd, r, start))
			if len(all) > 0 {
				sets++
				in := all[rnd.Intn(len(all))]
				moments = append(moments, all[0], all[len(all)-1], in, in+1, in-1, in+60, in-3600, in+day)
			}
			for _, at := range moments {
				if !stamp.May(at) {
					continue
				}
				raw, has := m.holdAt(t, at)
				raws, hases, others = raws+count(raw), hases+count(has), others+count(!raw)
			}
		}
	}
	if sets < 2000 || raws < 6000 || hases < 2000 || others < 6000 {
		t.Fatalf("%d sets, %d raw, %d members, %d others", sets, raws, hases, others)
	}
}

func count(b bool) int {
	if b {
		return 1
	}
	return 0
}

func TestP7_1Known(t *testing.T) {
	for _, c := range []struct{ rule, start, yes, no string }{
		// Ahead of the start, behind Until, whatever Pos says.
		{"FREQ=DAILY;UNTIL=20260109T090000", "20260107T090000", "20260107T090000 20260101T090000 20270101T090000 00010101T090000 99991231T090000", "20260107T090001 20260107T085959"},
		{"FREQ=MONTHLY;BYDAY=MO,FR;BYSETPOS=-1", "20260130T090000", "20260130T090000 20260102T090000 20260105T090000", "20260106T090000 20260130T210000"},
		{"FREQ=DAILY;COUNT=1", "20260107T090000", "20260107T090000 20260108T090000", "20260108T080000"},
		// Every second period, and the third ahead of the start is none.
		{"FREQ=YEARLY;INTERVAL=2", "20260107T090000", "20260107T090000 20280107T090000 20240107T090000 20200107T090000", "20250107T090000 20270107T090000 20230107T090000 20280108T090000"},
		{"FREQ=MONTHLY;INTERVAL=5", "20260131T000000", "20260131T000000 20281231T000000 20250831T000000 20250331T000000 20231231T000000", "20260331T000000 20251231T000000 20240131T000000"},
		{"FREQ=WEEKLY;INTERVAL=3;WKST=WE", "20260107T235959", "20260107T235959 20260128T235959 20251217T235959", "20260114T235959 20260121T235959 20251231T235959 20251224T235959 20260128T000000"},
		{"FREQ=DAILY;INTERVAL=1000", "19700101T000000", "19700101T000000 19720927T000000 19670407T000000", "19720926T000000 19720928T000000 19670408T000000"},
		{"FREQ=HOURLY;INTERVAL=7", "19700101T003015", "19700101T003015 19700101T073015 19691231T173015 19700102T043015", "19700101T013015 19700101T073014 19700101T063015 19691231T163015"},
		{"FREQ=MINUTELY;INTERVAL=59", "19700101T000007", "19700101T000007 19700101T005907 19691231T230107 19691231T220207", "19700101T010007 19691231T230007 19700101T005900"},
		{"FREQ=SECONDLY;INTERVAL=61", "19700101T000000", "19700101T000101 19700101T000202 19691231T235859", "19700101T000100 19700101T000102 19691231T235900"},
		// Hours, minutes and seconds: each must be among its own.
		{"FREQ=DAILY;BYHOUR=3,23;BYMINUTE=0,59;BYSECOND=7", "20260107T090000", "20260107T030007 20260107T235907 20260107T230007 20260107T035907", "20260107T090000 20260107T030000 20260107T033007 20260107T040007 20260107T073003"},
		{"FREQ=SECONDLY;BYHOUR=3;BYSECOND=5", "20260107T090000", "20260107T030005 20260107T035905", "20260107T030006 20260107T040005 20260107T050305"},
		// A week year's first day lies in the year ahead.
		{"FREQ=YEARLY;INTERVAL=2;BYWEEKNO=1", "20260101T090000", "20260101T090000 20240104T090000 20280106T090000", "20250102T090000 20270107T090000 20251231T090000"},
		{"FREQ=YEARLY;INTERVAL=2;BYWEEKNO=1;BYDAY=MO", "20260101T090000", "20251229T090000 20240101T090000 20280103T090000", "20241230T090000 20270104T090000 20260105T090000"},
		{"FREQ=YEARLY;INTERVAL=4", "20240229T120000", "20240229T120000 20280229T120000 00040229T120000", "20250228T120000 20250301T120000 20280228T120000 19000228T120000"},
	} {
		r, start := read(t, c.rule), at(t, c.start)
		for _, s := range strings.Fields(c.yes) {
			if !Raw(r, start, at(t, s)) {
				t.Errorf("Raw of %s from %s: not %s", c.rule, c.start, s)
			}
		}
		for _, s := range strings.Fields(c.no) {
			if Raw(r, start, at(t, s)) {
				t.Errorf("Raw of %s from %s: %s", c.rule, c.start, s)
			}
		}
	}
}

// Each second of some days.
func TestP7_1EverySecond(t *testing.T) {
	for _, s := range []string{
		"FREQ=DAILY;INTERVAL=2;BYHOUR=0,23;BYSECOND=0,59", "FREQ=HOURLY;INTERVAL=5;BYMINUTE=0,7,59", "FREQ=MINUTELY;INTERVAL=7;BYHOUR=0,2,23",
		"FREQ=SECONDLY;INTERVAL=13", "FREQ=WEEKLY;BYDAY=WE,TH;BYHOUR=0;BYMINUTE=0,1", "FREQ=SECONDLY;BYSECOND=0;BYDAY=TH",
	} {
		r := read(t, s)
		for _, start := range []int{-day - 1, 0, 45296} {
			m := modelOf(r, start)
			for at := -2 * day; at < 2*day; at++ {
				if want := m.raw(at); Raw(r, start, at) != want {
					t.Fatalf("Raw of %s from %d: %d is not %t", s, start, at, want)
				}
			}
		}
	}
}

// mayNot holds rules that may not be; were they not asked whether they may,
// they would take moment 0.
func mayNot() []api.Rule {
	all := []api.Rule{
		{}, plain(0), plain(8), plain(-1), plain(math.MinInt), plain(math.MaxInt),
		{Freq: 4, Interval: -1}, {Freq: 4, Interval: 1001}, {Freq: 4, Interval: math.MinInt}, {Freq: 4, Interval: 1, Count: -1}, {Freq: 4, Interval: 1, Count: api.MaxOcc + 1},
		{Freq: 4, Interval: 1, Wkst: 7}, {Freq: 3, Interval: 1, Wkst: -1}, {Freq: 4, Interval: 1, Until: 1},
		{Freq: 4, Interval: 1, Ends: true, Until: lastMoment + 1}, {Freq: 4, Interval: 1, Ends: true, Until: 5, Count: 1},
		{Freq: 4, Interval: 1, Month: []int{1, 1}}, {Freq: 4, Interval: 1, Month: []int{1, 13}}, {Freq: 4, Interval: 1, Month: []int{0, 1}},
		{Freq: 2, Interval: 1, Week: []int{1}}, {Freq: 4, Interval: 1, YearDay: []int{1}}, {Freq: 3, Interval: 1, MonthDay: []int{1}}, {Freq: 4, Interval: 1, Day: []api.Day{{N: 1, W: 3}}},
		{Freq: 4, Interval: 1, Hour: []int{0, 24}}, {Freq: 4, Interval: 1, Minute: []int{0, 60}}, {Freq: 4, Interval: 1, Second: []int{0, 0}},
		{Freq: 4, Interval: 1, Pos: []int{1}}, {Freq: 4, Interval: 1, Hour: []int{0}, Pos: []int{0, 1}}, {Freq: 4, Interval: 1, Hour: []int{0}, Pos: []int{1, 367}},
		{Freq: 4, Interval: 1, Hour: upto(0, 23), Minute: upto(0, 41)},
	}
	for freq := 1; freq <= 7; freq++ {
		all = append(all, api.Rule{Freq: freq})
	}
	return all
}

func TestP7_1P7_2P7_3None(t *testing.T) {
	none := func(r api.Rule, start, at int) {
		t.Helper()
		if Raw(r, start, at) || Has(r, start, at) {
			t.Errorf("%+v from %d: at %d Raw is %t, Has %t", r, start, at, Raw(r, start, at), Has(r, start, at))
		}
		for _, most := range []int{1, 100000, 0, 100001} {
			if all, e := Set(r, start, at, most); len(all) > 0 || e != api.ErrRange {
				t.Errorf("Set(%+v, %d, %d, %d) = %v, %d", r, start, at, most, all, e)
			}
		}
	}
	for _, r := range mayNot() {
		none(r, 0, 0)
	}
	for freq := 1; freq <= 7; freq++ {
		all := api.Rule{Freq: freq, Interval: 1, Day: week()}
		ends := all
		ends.Ends, ends.Until = true, lastMoment
		pos := all
		pos.Pos = []int{-1, 1}
		for _, r := range []api.Rule{plain(freq), all, ends, pos} {
			for _, at := range noMoment {
				none(r, 0, at)
				none(r, at, 0)
				none(r, at, at)
			}
			for _, at := range []int{firstMoment, -1, 0, lastMoment} {
				if !Raw(r, at, at) {
					t.Errorf("Raw(%+v, %d, %d) = false", r, at, at)
				}
			}
		}
	}
}

func TestP7_2Known(t *testing.T) {
	for _, c := range []struct{ rule, start, at, want string }{
		// All of the period, ahead of the start and behind Until too, whatever Count and Pos say.
		{"FREQ=WEEKLY;BYDAY=MO,WE,SU;UNTIL=20260107T090000", "20260107T090000", "20260108T000000", "20260105T090000 20260107T090000 20260111T090000"},
		{"FREQ=WEEKLY;BYDAY=MO,WE,SU;COUNT=1;BYSETPOS=2", "20260111T090000", "20260105T000000", "20260105T090000 20260107T090000 20260111T090000"},
		{"FREQ=DAILY;BYHOUR=1,5", "20260107T090000", "20200229T235959", "20200229T010000 20200229T050000"},
		{"FREQ=DAILY;INTERVAL=2;BYHOUR=1,5", "20260107T090000", "20260109T235959", "20260109T010000 20260109T050000"},
		{"FREQ=DAILY;INTERVAL=2;BYHOUR=1,5", "20260107T090000", "20260108T010000", ""},
		{"FREQ=YEARLY;BYMONTH=1,12;BYMONTHDAY=-1,1", "20260107T090000", "20270630T000000", "20270101T090000 20270131T090000 20271201T090000 20271231T090000"},
		{"FREQ=YEARLY;BYWEEKNO=1,-1;BYDAY=MO,SU", "20260107T090000", "20260630T000000", "20251229T090000 20260104T090000 20261228T090000 20270103T090000"},
		{"FREQ=YEARLY;BYWEEKNO=1,-1;BYDAY=MO,SU", "20260107T090000", "20251229T000000", "20251229T090000 20260104T090000 20261228T090000 20270103T090000"},
		{"FREQ=YEARLY;BYWEEKNO=1,-1;BYDAY=MO,SU", "20260107T090000", "20251228T000000", "20241230T090000 20250105T090000 20251222T090000 20251228T090000"},
		{"FREQ=MONTHLY;BYMONTHDAY=31", "20260107T090000", "20260228T090000", ""},
		{"FREQ=HOURLY;BYMINUTE=0,30;BYSECOND=1,2", "20260107T090000", "20260107T235959", "20260107T230001 20260107T230002 20260107T233001 20260107T233002"},
		{"FREQ=HOURLY", "20260107T090102", "20260107T235959", "20260107T230102"},
		{"FREQ=HOURLY;BYHOUR=22", "20260107T090102", "20260107T235959", ""},
		{"FREQ=HOURLY;BYDAY=TH", "20260107T090102", "20260107T235959", ""},
		{"FREQ=HOURLY;INTERVAL=2", "20260107T090102", "20260107T225959", ""},
		{"FREQ=MINUTELY", "20260107T090007", "20260107T235959", "20260107T235907"},
		{"FREQ=MINUTELY;BYMINUTE=58", "20260107T090007", "20260107T235959", ""},
		{"FREQ=MINUTELY;BYSECOND=1,59", "20260107T090007", "20260107T235912", "20260107T235901 20260107T235959"},
		{"FREQ=SECONDLY", "20260107T090007", "20260107T235912", "20260107T235912"},
		{"FREQ=SECONDLY;BYSECOND=11,13", "20260107T090007", "20260107T235912", ""},
		{"FREQ=SECONDLY;BYMINUTE=58", "20260107T090007", "20260107T235912", ""},
		// Periods that the first day or the last one cuts.
		{"FREQ=WEEKLY;BYDAY=SA,SU,MO;WKST=SU", "20260107T090000", "00010101T000000", "00010101T090000 00010106T090000"},
		{"FREQ=WEEKLY;BYDAY=TH,FR,SA", "20260107T090000", "99991231T000000", "99991230T090000 99991231T090000"},
		{"FREQ=WEEKLY;BYDAY=TH,FR,SA;WKST=FR", "20260107T090000", "99991231T000000", "99991231T090000"},
		{"FREQ=YEARLY;BYMONTHDAY=31;BYMONTH=12", "20260107T235959", "99990101T000000", "99991231T235959"},
		{"FREQ=YEARLY;BYWEEKNO=1;BYDAY=SA,SU;WKST=SU", "20260107T090000", "00010101T000000", "00010106T090000"},
	} {
		r := read(t, c.rule)
		got, e := Set(r, at(t, c.start), at(t, c.at), 100)
		if want := atAll(t, c.want); !slices.Equal(got, want) || e != api.OK {
			t.Errorf("Set of %s from %s at %s: %v, %d, not %v", c.rule, c.start, c.at, got, e, want)
		}
	}
}

// full is a rule with as many times on each of its days as the numbers make.
func full(hours, minutes int) api.Rule {
	return api.Rule{Freq: 1, Interval: 1, Hour: upto(0, hours-1), Minute: upto(0, minutes-1)}
}

func TestP7_2Most(t *testing.T) {
	hundred := full(20, 50)
	hundred.Month, hundred.MonthDay = upto(1, 10), upto(1, 10)
	for _, c := range []struct {
		r    api.Rule
		most int
		size int
		want api.Errno
	}{
		{plain(4), 1, 1, api.OK}, {plain(4), 100000, 1, api.OK},
		{plain(4), 0, 0, api.ErrRange}, {plain(4), -1, 0, api.ErrRange}, {plain(4), math.MinInt, 0, api.ErrRange},
		{plain(4), 100001, 0, api.ErrRange}, {plain(4), math.MaxInt, 0, api.ErrRange},
		{hundred, 100000, 100000, api.OK}, {hundred, 99999, 0, api.ErrMany}, {hundred, 1, 0, api.ErrMany},
		{hundred, 0, 0, api.ErrRange}, {hundred, 100001, 0, api.ErrRange},
		{api.Rule{Freq: 4, Interval: 1, Hour: []int{1, 2, 3}}, 2, 0, api.ErrMany}, {api.Rule{Freq: 4, Interval: 1, Hour: []int{1, 2, 3}}, 3, 3, api.OK},
		{api.Rule{Freq: 2, Interval: 1, Day: week()}, 30, 0, api.ErrMany}, {api.Rule{Freq: 2, Interval: 1, Day: week()}, 31, 31, api.OK},
		{api.Rule{Freq: 5, Interval: 1, Minute: upto(0, 59), Second: upto(0, 59)}, 3599, 0, api.ErrMany}, {api.Rule{Freq: 5, Interval: 1, Minute: upto(0, 59), Second: upto(0, 59)}, 3600, 3600, api.OK},
		// None are not too many.
		{api.Rule{Freq: 4, Interval: 1, Month: []int{2}}, 1, 0, api.OK}, {api.Rule{Freq: 4, Interval: 1, Month: []int{2}}, 0, 0, api.ErrRange},
	} {
		if got, e := Set(c.r, 0, 0, c.most); len(got) != c.size || e != c.want {
			t.Errorf("Set of %s, most %d: %d moments, %d, not %d, %d", told(c.r), c.most, len(got), e, c.size, c.want)
		}
	}
	// A period that Interval leaves out has none, however many others have.
	hundred.Interval = 2
	if got, e := Set(hundred, 0, 366*day, 1); len(got) > 0 || e != api.OK {
		t.Errorf("Set of 1971: %d moments, %d", len(got), e)
	}
}

func TestP7_3Known(t *testing.T) {
	for _, c := range []struct{ rule, start, yes, no string }{
		{"FREQ=MONTHLY;BYDAY=MO,TU,WE,TH,FR;BYSETPOS=-1", "20260130T090000", "20260130T090000 20260227T090000 20261231T090000", "20260226T090000 20251231T090000 20260227T090001 20260228T090000"},
		// The bounds themselves belong.
		{"FREQ=DAILY;UNTIL=20260109T090000", "20260107T090000", "20260107T090000 20260108T090000 20260109T090000", "20260106T090000 20260110T090000"},
		{"FREQ=DAILY;UNTIL=20260109T085959", "20260107T090000", "20260107T090000 20260108T090000", "20260109T090000"},
		{"FREQ=DAILY;UNTIL=20260107T090000", "20260107T090000", "20260107T090000", "20260106T090000 20260108T090000"},
		{"FREQ=DAILY;UNTIL=20260107T085959", "20260107T090000", "", "20260106T090000 20260107T090000 20260108T090000"},
		{"FREQ=DAILY;UNTIL=00010101T000000", "20260107T090000", "", "00010101T090000 20260107T090000"},
		{"FREQ=SECONDLY", "20260107T090000", "20260107T090000 20260107T090001 99991231T235959", "20260107T085959 00010101T000000"},
		// A start that is not raw is none.
		{"FREQ=WEEKLY;BYDAY=MO", "20260107T090000", "20260112T090000", "20260107T090000 20260105T090000"},
		{"FREQ=DAILY;BYHOUR=8", "20260107T090000", "20260108T080000", "20260107T090000 20260107T080000"},
		// Count is not looked at, not even with Pos.
		{"FREQ=DAILY;COUNT=1", "20260107T090000", "20260107T090000 20260108T090000 99991231T090000", "20260106T090000"},
		{"FREQ=DAILY;COUNT=1;BYHOUR=9,10,11;BYSETPOS=2", "20260107T090000", "20260107T100000 20260108T100000", "20260107T090000 20260107T110000"},
		// Those ahead of the start and behind Until have their places.
		{"FREQ=MONTHLY;BYMONTHDAY=10,20;BYSETPOS=1", "20260115T090000", "20260210T090000", "20260110T090000 20260120T090000 20260220T090000"},
		{"FREQ=MONTHLY;BYMONTHDAY=10,20;BYSETPOS=-1;UNTIL=20260215T090000", "20260101T090000", "20260120T090000", "20260110T090000 20260210T090000 20260220T090000"},
		{"FREQ=DAILY;BYHOUR=8,9,10;BYSETPOS=1,2", "20260107T090000", "20260107T090000 20260108T080000 20260108T090000", "20260107T080000 20260107T100000 20260108T100000"},
		// From the front and from the back at once.
		{"FREQ=WEEKLY;BYDAY=MO,TU,WE,TH;BYSETPOS=-2,1", "20260105T090000", "20260105T090000 20260107T090000 20260112T090000", "20260106T090000 20260108T090000"},
		{"FREQ=YEARLY;BYMONTH=1,2;BYSETPOS=-2,2", "20260107T090000", "20260107T090000 20260207T090000", "20260307T090000"},
		// Places that no set has.
		{"FREQ=DAILY;BYHOUR=9,10;BYSETPOS=-366,-3,3,366", "20260107T090000", "", "20260107T090000 20260107T100000"},
		{"FREQ=YEARLY;BYDAY=MO,TU,WE,TH,FR,SA,SU;BYSETPOS=-366,366", "20230101T000000", "20240101T000000 20241231T000000", "20230101T000000 20231231T000000 20240102T000000"},
		// Within an hour, a minute, a second.
		{"FREQ=HOURLY;INTERVAL=3;BYMINUTE=0,20,40;BYSETPOS=-1", "20260107T220000", "20260107T224000 20260108T014000", "20260107T220000 20260107T222000 20260107T234000"},
		{"FREQ=MINUTELY;BYSECOND=10,30,50;BYSETPOS=2", "20260107T220000", "20260107T220030 20260107T220130", "20260107T220010 20260107T220050"},
		{"FREQ=SECONDLY;BYSECOND=10,30;BYSETPOS=-1", "20260107T220000", "20260107T220010 20260107T220030", "20260107T220011"},
		{"FREQ=SECONDLY;BYSECOND=10,30;BYSETPOS=2", "20260107T220000", "", "20260107T220010 20260107T220030"},
		// A week's place by the weekday that it begins on.
		{"FREQ=WEEKLY;BYDAY=MO,SU;BYSETPOS=1;WKST=SU", "20260104T090000", "20260104T090000 20260111T090000", "20260105T090000 20260112T090000"},
		{"FREQ=WEEKLY;BYDAY=MO,SU;BYSETPOS=1", "20260104T090000", "20260105T090000 20260112T090000", "20260104T090000 20260111T090000"},
		// The week year's first and last one lie in other years.
		{"FREQ=YEARLY;BYWEEKNO=1,53;BYDAY=MO,SU;BYSETPOS=1,-1", "20250101T090000", "20251229T090000 20270103T090000", "20260104T090000 20261228T090000"},
		// What the first and the last day cut has no place.
		{"FREQ=WEEKLY;BYDAY=SU,MO;WKST=SU;BYSETPOS=1", "00010101T090000", "00010101T090000 00010107T090000", "00010108T090000"},
		{"FREQ=WEEKLY;BYDAY=TH,FR,SA;BYSETPOS=-1", "99991201T090000", "99991231T090000 99991225T090000", "99991230T090000"},
	} {
		r, start := read(t, c.rule), at(t, c.start)
		for _, s := range strings.Fields(c.yes) {
			if !Has(r, start, at(t, s)) {
				t.Errorf("Has of %s from %s: not %s", c.rule, c.start, s)
			}
		}
		for _, s := range strings.Fields(c.no) {
			if Has(r, start, at(t, s)) {
				t.Errorf("Has of %s from %s: %s", c.rule, c.start, s)
			}
		}
	}
}

// Each place from the front and from the back, alone, of periods of each Freq.
func TestP7_3Places(t *testing.T) {
	start := at(t, "20240101T000000")
	for _, s := range []string{
		"FREQ=YEARLY;BYDAY=MO,TU,WE,TH,FR,SA,SU", "FREQ=YEARLY;BYWEEKNO=1,2,53;BYDAY=MO,FR", "FREQ=MONTHLY;BYDAY=MO,TU,WE,TH,FR", "FREQ=WEEKLY;BYDAY=TU,FR,SA;BYHOUR=1,23",
		"FREQ=DAILY;BYHOUR=0,7,23;BYMINUTE=0,59", "FREQ=HOURLY;BYMINUTE=0,1,59;BYSECOND=3,4", "FREQ=MINUTELY;BYSECOND=0,1,2,30", "FREQ=SECONDLY;BYHOUR=0",
	} {
		r := read(t, s)
		all, e := Set(r, start, start, 1000)
		if e != api.OK || len(all) == 0 {
			t.Fatalf("Set of %s: %d, %d", s, len(all), e)
		}
		step := 1 + len(all)/40
		for i := 0; i < len(all); i += step {
			for _, pos := range []int{i + 1, i - len(all), i, i + 2, i - len(all) - 1, i - len(all) + 1} {
				if pos == 0 || pos < -366 || pos > 366 {
					continue
				}
				r.Pos = []int{pos}
				if Has(r, start, all[i]) != (pos == i+1 || pos == i-len(all)) {
					t.Errorf("Has of %s, Pos %d: number %d of %d: %t", s, pos, i, len(all), Has(r, start, all[i]))
				}
			}
		}
	}
}

// Of more than 100000 none has a place; of just as many each has.
func TestP7_3Many(t *testing.T) {
	hundred := full(20, 50)
	hundred.Month, hundred.MonthDay = upto(1, 10), upto(1, 10)
	last, first := at(t, "20231010T194900"), at(t, "20230101T000000")
	for _, c := range []struct {
		pos, at int
		has     bool
	}{{1, first, true}, {-1, last, true}, {1, last, false}, {2, first + 60, true}, {-2, last - 60, true}, {-1, first, false}} {
		r := hundred
		r.Pos = []int{c.pos}
		if Has(r, first, c.at) != c.has {
			t.Errorf("of 100000, Pos %d: %d is not %t", c.pos, c.at, c.has)
		}
		// Of each day there are more, that of c.at among them.
		r.Month, r.MonthDay, r.Day = nil, nil, week()
		if all, e := Set(r, first, first, 100000); len(all) > 0 || e != api.ErrMany || Has(r, first, c.at) || !Raw(r, first, c.at) {
			t.Errorf("of more than 100000, Pos %d: %d, %t", c.pos, e, Has(r, first, c.at))
		}
	}
	// 339 days of 295 times are 100005.
	r := full(5, 59)
	r.Day = week()[1:]
	for n := 1; n <= 26; n++ {
		r.Day = append(r.Day, api.Day{N: n, W: 0})
	}
	r.Pos = []int{-1, 1}
	if all, e := Set(r, first, first, 100000); len(all) > 0 || e != api.ErrMany || Has(r, first, first) || !Raw(r, first, first) {
		t.Errorf("of 100005: %d moments, %d, %t", len(all), e, Has(r, first, first))
	}
	// 338 are not too many.
	r.Day = r.Day[:len(r.Day)-1]
	if all, e := Set(r, first, first, 100000); len(all) != 338*295 || e != api.OK || !Has(r, first, first) {
		t.Errorf("of 99710: %d moments, %d, %t", len(all), e, Has(r, first, first))
	}
}

// roomy is the list in the midst of memory that has something else around it.
func roomy[T any](list []T, other T) ([]T, []T) {
	all := append([]T{other, other}, list...)
	all = append(all, other, other, other)
	return all[2 : 2+len(list)], all
}

// What is handed in stays as it is, what lies behind it too.
func TestP7_4In(t *testing.T) {
	r := api.Rule{Freq: 1, Interval: 1}
	var alls [][]int
	for _, f := range []struct {
		list *[]int
		has  []int
	}{{&r.Month, []int{1, 2}}, {&r.YearDay, []int{-1, 1}}, {&r.MonthDay, []int{1, 31}}, {&r.Hour, []int{3, 4}}, {&r.Minute, []int{5}}, {&r.Second, []int{6, 7, 8}}, {&r.Pos, []int{1}}} {
		list, all := roomy(f.has, 1000)
		*f.list = list
		alls = append(alls, all)
	}
	ds, allDays := roomy([]api.Day{{N: -1, W: 3}, {N: 0, W: 3}}, api.Day{N: 99, W: 99})
	r.Day = ds
	was := make([][]int, len(alls))
	for i, all := range alls {
		was[i] = slices.Clone(all)
	}
	wasDays := slices.Clone(allDays)
	for freq := 1; freq <= 7; freq++ {
		r := r
		r.Freq = freq
		if freq > 1 {
			r.YearDay = nil
			r.Day = nil
		}
		if freq == 3 {
			r.MonthDay = nil
		}
		at := 3*3600 + 5*60 + 6
		if !Raw(r, 0, at) || !Has(r, 0, at) {
			t.Errorf("Freq %d: Raw %t, Has %t", freq, Raw(r, 0, at), Has(r, 0, at))
		}
		if all, e := Set(r, 0, at, 100); len(all) == 0 || e != api.OK {
			t.Errorf("Freq %d: %v, %d", freq, all, e)
		}
		Set(r, 0, at, 1)
		Set(r, 0, 0, 9)
	}
	for i, all := range alls {
		if !slices.Equal(all, was[i]) {
			t.Errorf("list %d is %v, was %v", i, all, was[i])
		}
	}
	if !slices.Equal(allDays, wasDays) {
		t.Errorf("days are %v, were %v", allDays, wasDays)
	}
}

// Whatever is written into an answer, spare room too, neither another answer
// nor the rule shows it; empty lists are as none.
func TestP7_4Out(t *testing.T) {
	for _, s := range []string{"FREQ=SECONDLY", "FREQ=MINUTELY;BYSECOND=1,2,3", "FREQ=HOURLY;BYMINUTE=5,6,7,8,9", "FREQ=DAILY;BYHOUR=1,2,3", "FREQ=WEEKLY;BYDAY=MO,FR,SU", "FREQ=MONTHLY;BYDAY=MO,FR", "FREQ=YEARLY;BYWEEKNO=1,2,3", "FREQ=YEARLY;BYMONTH=2;BYMONTHDAY=30"} {
		r := read(t, s)
		want, e := Set(r, 0, 0, 100)
		if e != api.OK {
			t.Fatalf("Set of %s: %d", s, e)
		}
		var lists [][]int
		for range 3 {
			all, _ := Set(r, 0, 0, 100)
			lists = append(lists, all)
		}
		kept := slices.Clone(want)
		for i, list := range lists {
			for _, other := range lists[i:] {
				if !slices.Equal(other, kept) {
					t.Fatalf("Set of %s: %v, was %v", s, other, kept)
				}
			}
			list = list[:cap(list)]
			for k := range list {
				list[k] = -5
			}
		}
		if again, _ := Set(r, 0, 0, 100); !slices.Equal(again, kept) || !slices.Equal(want, kept) || !rule.Same(r, read(t, s)) {
			t.Fatalf("Set of %s: %v, was %v", s, again, kept)
		}
		empty := r
		for _, list := range []*[]int{&empty.Month, &empty.Week, &empty.YearDay, &empty.MonthDay, &empty.Hour, &empty.Minute, &empty.Second, &empty.Pos} {
			if len(*list) == 0 {
				*list = []int{}
			}
		}
		if again, _ := Set(empty, 0, 0, 100); !slices.Equal(again, kept) || Has(empty, 0, 0) != Has(r, 0, 0) || Raw(empty, 0, 0) != Raw(r, 0, 0) {
			t.Fatalf("Set of %s with empty lists: %v, not %v", s, again, kept)
		}
	}
}

// Set is what Raw says: each moment of the period, one by one, and no other
// one.
func TestP7_5Set(t *testing.T) {
	for _, s := range []string{
		"FREQ=SECONDLY;INTERVAL=3", "FREQ=MINUTELY;BYSECOND=0,1,59", "FREQ=HOURLY;INTERVAL=2;BYMINUTE=0,59;BYSECOND=0,59", "FREQ=DAILY;BYHOUR=0,23;BYMINUTE=0,59;BYSECOND=0,59",
		"FREQ=DAILY;INTERVAL=2", "FREQ=WEEKLY;BYDAY=MO,SU;BYHOUR=0,23;WKST=WE", "FREQ=WEEKLY;INTERVAL=2",
	} {
		r, start := read(t, s), at(t, "20260107T235959")
		for _, back := range []int{0, span(r)} {
			var want []int
			first := start - back
			for number(r, first-1) == number(r, first) {
				first--
			}
			for u := first; u < first+span(r); u++ {
				if Raw(r, start, u) {
					want = append(want, u)
				}
			}
			for _, u := range []int{first, start - back, first + span(r) - 1} {
				if got, e := Set(r, start, u, 100000); !slices.Equal(got, want) || e != api.OK {
					t.Fatalf("Set of %s at %d: %v, %d, not %v", s, u, got, e, want)
				}
			}
			if skips := r.Interval > 1 && back > 0; (len(want) == 0) != skips {
				t.Fatalf("Set of %s: %v", s, want)
			}
		}
	}
}

// Months and years minute by minute.
func TestP7_5Long(t *testing.T) {
	for s, ends := range map[string]string{
		"FREQ=MONTHLY;BYDAY=1MO,-1SU;BYHOUR=0,23;BYMINUTE=0,59": "20260201T000000 20260228T235900",
		"FREQ=MONTHLY;BYMONTHDAY=1,-1;BYHOUR=0,23":              "20240201T000000 20240229T235900",
		"FREQ=YEARLY;BYYEARDAY=1,-1;BYHOUR=0,23;BYMINUTE=0,59":  "20240101T000000 20241231T235900",
		"FREQ=YEARLY;BYWEEKNO=1,-1;BYDAY=MO,SU;BYHOUR=0,23":     "20251229T000000 20270103T235900",
	} {
		r, span := read(t, s), atAll(t, ends)
		start := span[0] + 59*60
		var want []int
		for u := span[0]; u <= span[1]; u += 60 {
			if Raw(r, start, u) {
				want = append(want, u)
			}
		}
		for _, u := range []int{span[0], span[1] + 59, (span[0] + span[1]) / 2} {
			if got, e := Set(r, start, u, 100); !slices.Equal(got, want) || e != api.OK || len(want) < 4 {
				t.Errorf("Set of %s at %d: %v, %d, not %v", s, u, got, e, want)
			}
		}
		for _, u := range []int{span[0] - 1, span[1] + 60} {
			if got, _ := Set(r, start, u, 100); len(got) == 0 || slices.Contains(want, got[0]) {
				t.Errorf("Set of %s at %d: %v", s, u, got)
			}
		}
	}
}

// Neither Count nor a later Until is to be seen.
func TestP7_5Bounds(t *testing.T) {
	rnd := rand.New(rand.NewSource(75))
	yes := 0
	for i := range 2100 {
		r := random(rnd, 1+i%7)
		r.Count = 0
		start := rnd.Intn(1<<33) - 1<<32
		u := near(rnd, r, start)
		if all, _ := Set(r, start, u, 100000); len(all) > 0 && i%3 > 0 {
			u = all[rnd.Intn(len(all))]
		}
		has := Has(r, start, u)
		yes += count(has)
		for _, n := range []int{1, 2, api.MaxOcc} {
			c := r
			c.Count = n
			if Has(c, start, u) != has {
				t.Fatalf("Has of %s from %d at %d is not %t", told(c), start, u, has)
			}
		}
		for later, same := range map[int]bool{0: true, 1: true, day: true, lastMoment - u: true, -1: false, firstMoment - u: false} {
			c := r
			c.Ends, c.Until = true, u+later
			if Has(c, start, u) != (has && same) {
				t.Fatalf("Has of %s from %d at %d is not %t", told(c), start, u, has && same)
			}
		}
	}
	if yes < 200 {
		t.Fatalf("%d members", yes)
	}
}

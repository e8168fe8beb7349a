package expand

import (
	"math"
	"math/rand"
	"slices"
	"strconv"
	"strings"
	"testing"

	"convoker/api"
	"convoker/member"
	"convoker/rule"
	"convoker/stamp"
)

const (
	firstDay    = -719162 // 0001-01-01
	lastDay     = 2932896 // 9999-12-31
	firstMoment = firstDay * day
	lastMoment  = lastDay*day + day - 1
)

// noMoment holds numbers that are no moment.
var noMoment = []int{firstMoment - 1, lastMoment + 1, math.MinInt, math.MinInt + 1, -1 << 50, 1 << 50, math.MaxInt - 1, math.MaxInt}

func at(t *testing.T, s string) int {
	t.Helper()
	n, e := stamp.Parse(s)
	if e != api.OK {
		t.Fatalf("%s: error %d", s, e)
	}
	return n
}

func atAll(t *testing.T, s string) []int {
	t.Helper()
	var all []int
	for _, text := range strings.Fields(s) {
		all = append(all, at(t, text))
	}
	return all
}

func read(t *testing.T, s string) api.Rule {
	t.Helper()
	r, _, e := rule.Parse(s)
	if e != api.OK {
		t.Fatalf("%s: error %d", s, e)
	}
	return r
}

func told(r api.Rule) string {
	s, _ := rule.Print(r)
	return s
}

func plain(freq int) api.Rule { return api.Rule{Freq: freq, Interval: 1} }

func upto(lo, hi int) []int {
	var all []int
	for n := lo; n <= hi; n++ {
		if n != 0 || lo == 0 {
			all = append(all, n)
		}
	}
	return all
}

// each is every number from lo to hi, by so many, as a list's text.
func each(lo, hi, by int) string {
	var all []string
	for n := lo; n <= hi; n += by {
		all = append(all, strconv.Itoa(n))
	}
	return strings.Join(all, ",")
}

// floor is how often by goes into n, below 0 too.
func floor(n, by int) int {
	q := n / by
	for q*by > n {
		q--
	}
	return q
}

// model tells moment by moment what the chapter says.
type model struct {
	r       api.Rule
	start   int
	seconds []int // those of a day, whose hours, minutes and seconds may be
	set     []int // that of the last moment that was looked for
}

func modelOf(r api.Rule, start int) *model {
	m := &model{r: r, start: start}
	own := start - floor(start, day)*day
	takes := func(list []int, alone bool, own, n int) bool {
		if len(list) > 0 {
			return slices.Contains(list, n)
		}
		return !alone || n == own
	}
	for s := range day {
		if takes(r.Hour, r.Freq <= 4, own/3600, s/3600) && takes(r.Minute, r.Freq <= 5, own/60%60, s/60%60) && takes(r.Second, r.Freq <= 6, own%60, s%60) {
			m.seconds = append(m.seconds, s)
		}
	}
	return m
}

// has is what member.Has says, moment by moment, rising; a set is made once.
func (m *model) has(t int) bool {
	if t < m.start || m.r.Ends && t > m.r.Until || !member.Raw(m.r, m.start, t) {
		return false
	}
	if len(m.r.Pos) == 0 {
		return true
	}
	if len(m.set) == 0 || t > m.set[len(m.set)-1] {
		m.set, _ = member.Set(m.r, m.start, t, 100000)
	}
	i := slices.Index(m.set, t)
	return i >= 0 && (slices.Contains(m.r.Pos, i+1) || slices.Contains(m.r.Pos, i-len(m.set)))
}

// all is what List tells, without a bound on how many.
func (m *model) all(end int) []int {
	var all []int
	m.set = nil
	for n := floor(m.start, day); n*day < end; n++ {
		for _, s := range m.seconds {
			t := n*day + s
			if t >= m.start && t < end && (m.r.Count == 0 || len(all) < m.r.Count) && m.has(t) {
				all = append(all, t)
			}
		}
	}
	return all
}

// holdList holds List and Count to the end: at the given bounds, and at those
// where it is just as many, one less and one more.
func holdList(t *testing.T, r api.Rule, start, end int, want []int) {
	t.Helper()
	for _, most := range []int{api.MaxOcc, len(want), len(want) - 1, len(want) + 1, 1, 0, api.MaxOcc + 1} {
		all, e := want, api.OK
		switch {
		case most < 1 || most > api.MaxOcc:
			all, e = nil, api.ErrRange
		case most < len(want):
			all, e = nil, api.ErrMany
		}
		if got, f := List(r, start, end, most); !slices.Equal(got, all) || f != e {
			t.Fatalf("List of %s from %d to %d, most %d: %v, %d, not %v, %d", told(r), start, end, most, got, f, all, e)
		}
		if n, f := Count(r, start, end, most); n != len(all) || f != e {
			t.Fatalf("Count of %s from %d to %d, most %d: %d, %d, not %d, %d", told(r), start, end, most, n, f, len(all), e)
		}
	}
}

// holdNext holds the one next to a moment; all is what there is below end.
func holdNext(t *testing.T, r api.Rule, start, after, end int, all []int) {
	t.Helper()
	want, ok := 0, false
	if i, same := slices.BinarySearch(all, after); same {
		i++
		if i < len(all) {
			want, ok = all[i], true
		}
	} else if i < len(all) {
		want, ok = all[i], true
	}
	if got, has := Next(r, start, after, end); got != want || has != ok {
		t.Fatalf("Next of %s from %d behind %d to %d: %d, %t, not %d, %t", told(r), start, after, end, got, has, want, ok)
	}
}

// some takes some of the numbers, of each about one in the given number, but
// no more than 60.
func some(rnd *rand.Rand, all []int, one int) []int {
	var out []int
	for _, n := range all {
		if rnd.Intn(one) == 0 && len(out) < 60 {
			out = append(out, n)
		}
	}
	return out
}

func someDays(rnd *rand.Rand, freq int) []api.Day {
	var out []api.Day
	for n := -53; n <= 53; n++ {
		for w := range 7 {
			often := n == 0 && rnd.Intn(2) == 0
			seldom := n != 0 && freq <= 2 && rnd.Intn(30) == 0
			if (often || seldom) && len(out) < 60 {
				out = append(out, api.Day{N: n, W: w})
			}
		}
	}
	return out
}

// random is a rule that may be, with any of the lists.
func random(rnd *rand.Rand, freq int) api.Rule {
	for {
		r := api.Rule{Freq: freq, Interval: 1 + rnd.Intn([]int{1, 3, 12, 100, 1000}[rnd.Intn(5)]), Wkst: rnd.Intn(7)}
		for _, f := range []struct {
			list        *[]int
			lo, hi, one int
		}{{&r.Month, 1, 12, 2}, {&r.Week, -53, 53, 4}, {&r.YearDay, -366, 366, 13}, {&r.MonthDay, -31, 31, 3}, {&r.Hour, 0, 23, 8}, {&r.Minute, 0, 59, 20}, {&r.Second, 0, 59, 20}, {&r.Pos, -12, 12, 3}} {
			if rnd.Intn(4) == 0 {
				*f.list = some(rnd, upto(f.lo, f.hi), 1+rnd.Intn(f.one))
			}
		}
		if rnd.Intn(4) == 0 {
			r.Day = someDays(rnd, freq)
		}
		if rnd.Intn(4) == 0 {
			r.Count = 1 + rnd.Intn([]int{5, 100, api.MaxOcc}[rnd.Intn(3)])
		}
		if rule.May(r) {
			return r
		}
	}
}

// reach is how long a window may be in which no more than about so many
// moments are to be asked one by one.
func reach(m *model, asked int) int {
	if len(m.seconds) == 0 {
		return api.MaxDays * day
	}
	return min(asked*(day/len(m.seconds)), api.MaxDays*day)
}

// Random rules, from moments of all years, moment by moment.
func TestP8_1P8_2Random(t *testing.T) {
	t.Parallel()
	rnd := rand.New(rand.NewSource(8))
	lists, more, cut := 0, 0, 0
	for i := range 2100 {
		r := random(rnd, 1+i%7)
		start := firstMoment + rnd.Intn(lastMoment-firstMoment+1)
		if i%5 == 0 {
			start = []int{firstMoment, lastMoment - 400*day}[i/5%2] + rnd.Intn(400*day)
		}
		m := modelOf(r, start)
		wide := reach(m, 3000)
		if r.Count == 0 && rnd.Intn(3) == 0 {
			m.r.Ends, m.r.Until = true, min(max(start+rnd.Intn(wide+wide/4)-wide/8, firstMoment), lastMoment)
			r = m.r
		}
		end := min(start+rnd.Intn(wide+1), lastMoment)
		all := m.all(end)
		holdList(t, r, start, end, all)
		lists, more = lists+count(len(all) > 0), more+count(len(all) > 30)
		cut += count(len(all) > 0 && (len(all) == r.Count || r.Ends && r.Until < end))
		afters := []int{start - 1, start, end - 1, end, math.MinInt, math.MaxInt, start + rnd.Intn(max(end-start, 1))}
		if len(all) > 0 {
			in, last := all[rnd.Intn(len(all))], all[len(all)-1]
			afters = append(afters, in, in-1, in+1, last, last-1, last+1)
		}
		for _, after := range afters {
			holdNext(t, r, start, after, end, all)
		}
	}
	if lists < 900 || more < 300 || cut < 300 {
		t.Fatalf("%d lists, %d of more than 30, %d cut by Count or Until", lists, more, cut)
	}
}

func count(b bool) int {
	if b {
		return 1
	}
	return 0
}

// onDays is the moments of some days at a time of the day: "199709 2 16, 199710
// 14" are three days of two months.
func onDays(t *testing.T, s, time string) []int {
	t.Helper()
	var all []int
	for _, month := range strings.Split(s, ", ") {
		words := strings.Fields(month)
		for _, d := range words[1:] {
			if len(d) == 1 {
				d = "0" + d
			}
			all = append(all, at(t, words[0]+d+"T"+time))
		}
	}
	return all
}

// The examples of RFC 5545.
func TestP8_1Examples(t *testing.T) {
	for _, c := range []struct{ rule, start, end, want string }{
		{"FREQ=DAILY;COUNT=10", "19970902", "19990101", "199709 2 3 4 5 6 7 8 9 10 11"},
		{"FREQ=DAILY;INTERVAL=2", "19970902", "19970913", "199709 2 4 6 8 10 12"},
		{"FREQ=DAILY;INTERVAL=10;COUNT=5", "19970902", "19990101", "199709 2 12 22, 199710 2 12"},
		{"FREQ=WEEKLY;COUNT=10", "19970902", "19990101", "199709 2 9 16 23 30, 199710 7 14 21 28, 199711 4"},
		{"FREQ=WEEKLY;UNTIL=19971224T000000", "19970902", "19990101", "199709 2 9 16 23 30, 199710 7 14 21 28, 199711 4 11 18 25, 199712 2 9 16 23"},
		{"FREQ=WEEKLY;INTERVAL=2;WKST=SU", "19970902", "19980204", "199709 2 16 30, 199710 14 28, 199711 11 25, 199712 9 23, 199801 6 20, 199802 3"},
		{"FREQ=WEEKLY;UNTIL=19971007T000000;WKST=SU;BYDAY=TU,TH", "19970902", "19990101", "199709 2 4 9 11 16 18 23 25 30, 199710 2"},
		{"FREQ=WEEKLY;INTERVAL=2;UNTIL=19971224T000000;WKST=SU;BYDAY=MO,WE,FR", "19970901", "19990101", "199709 1 3 5 15 17 19 29, 199710 1 3 13 15 17 27 29 31, 199711 10 12 14 24 26 28, 199712 8 10 12 22"},
		{"FREQ=WEEKLY;INTERVAL=2;COUNT=8;WKST=SU;BYDAY=TU,TH", "19970902", "19990101", "199709 2 4 16 18 30, 199710 2 14 16"},
		{"FREQ=MONTHLY;COUNT=10;BYDAY=1FR", "19970905", "19990101", "199709 5, 199710 3, 199711 7, 199712 5, 199801 2, 199802 6, 199803 6, 199804 3, 199805 1, 199806 5"},
		{"FREQ=MONTHLY;UNTIL=19971224T000000;BYDAY=1FR", "19970905", "19990101", "199709 5, 199710 3, 199711 7, 199712 5"},
		{"FREQ=MONTHLY;INTERVAL=2;COUNT=10;BYDAY=1SU,-1SU", "19970907", "19990101", "199709 7 28, 199711 2 30, 199801 4 25, 199803 1 29, 199805 3 31"},
		{"FREQ=MONTHLY;COUNT=6;BYDAY=-2MO", "19970922", "19990101", "199709 22, 199710 20, 199711 17, 199712 22, 199801 19, 199802 16"},
		{"FREQ=MONTHLY;BYMONTHDAY=-3", "19970928", "19980301", "199709 28, 199710 29, 199711 28, 199712 29, 199801 29, 199802 26"},
		{"FREQ=MONTHLY;COUNT=10;BYMONTHDAY=2,15", "19970902", "19990101", "199709 2 15, 199710 2 15, 199711 2 15, 199712 2 15, 199801 2 15"},
		{"FREQ=MONTHLY;COUNT=10;BYMONTHDAY=1,-1", "19970930", "19990101", "199709 30, 199710 1 31, 199711 1 30, 199712 1 31, 199801 1 31, 199802 1"},
		{"FREQ=MONTHLY;INTERVAL=18;COUNT=10;BYMONTHDAY=10,11,12,13,14,15", "19970910", "20010101", "199709 10 11 12 13 14 15, 199903 10 11 12 13"},
		{"FREQ=MONTHLY;INTERVAL=2;BYDAY=TU", "19970902", "19980401", "199709 2 9 16 23 30, 199711 4 11 18 25, 199801 6 13 20 27, 199803 3 10 17 24 31"},
		{"FREQ=YEARLY;COUNT=10;BYMONTH=6,7", "19970610", "20050101", "199706 10, 199707 10, 199806 10, 199807 10, 199906 10, 199907 10, 200006 10, 200007 10, 200106 10, 200107 10"},
		{"FREQ=YEARLY;INTERVAL=2;COUNT=10;BYMONTH=1,2,3", "19970310", "20050101", "199703 10, 199901 10, 199902 10, 199903 10, 200101 10, 200102 10, 200103 10, 200301 10, 200302 10, 200303 10"},
		{"FREQ=YEARLY;INTERVAL=3;COUNT=10;BYYEARDAY=1,100,200", "19970101", "20070101", "199701 1, 199704 10, 199707 19, 200001 1, 200004 9, 200007 18, 200301 1, 200304 10, 200307 19, 200601 1"},
		{"FREQ=YEARLY;BYDAY=20MO", "19970519", "20000101", "199705 19, 199805 18, 199905 17"},
		{"FREQ=YEARLY;BYWEEKNO=20;BYDAY=MO", "19970512", "20000101", "199705 12, 199805 11, 199905 17"},
		{"FREQ=YEARLY;BYMONTH=3;BYDAY=TH", "19970313", "20000101", "199703 13 20 27, 199803 5 12 19 26, 199903 4 11 18 25"},
		{"FREQ=YEARLY;BYDAY=TH;BYMONTH=6,7,8", "19970605", "19980101", "199706 5 12 19 26, 199707 3 10 17 24 31, 199708 7 14 21 28"},
		{"FREQ=MONTHLY;BYDAY=FR;BYMONTHDAY=13", "19970902", "20001231", "199802 13, 199803 13, 199811 13, 199908 13, 200010 13"},
		{"FREQ=MONTHLY;BYDAY=SA;BYMONTHDAY=7,8,9,10,11,12,13", "19970913", "19980614", "199709 13, 199710 11, 199711 8, 199712 13, 199801 10, 199802 7, 199803 7, 199804 11, 199805 9, 199806 13"},
		{"FREQ=YEARLY;INTERVAL=4;BYMONTH=11;BYDAY=TU;BYMONTHDAY=2,3,4,5,6,7,8", "19961105", "20050101", "199611 5, 200011 7, 200411 2"},
		{"FREQ=MONTHLY;COUNT=3;BYDAY=TU,WE,TH;BYSETPOS=3", "19970904", "19990101", "199709 4, 199710 7, 199711 6"},
		{"FREQ=MONTHLY;BYDAY=MO,TU,WE,TH,FR;BYSETPOS=-2", "19970929", "19980401", "199709 29, 199710 30, 199711 27, 199712 30, 199801 29, 199802 26, 199803 30"},
		{"FREQ=WEEKLY;INTERVAL=2;COUNT=4;BYDAY=TU,SU;WKST=MO", "19970805", "19990101", "199708 5 10 19 24"},
		{"FREQ=WEEKLY;INTERVAL=2;COUNT=4;BYDAY=TU,SU;WKST=SU", "19970805", "19990101", "199708 5 17 19 31"},
		{"FREQ=MONTHLY;BYMONTHDAY=15,30;COUNT=5", "20070115", "20090101", "200701 15 30, 200702 15, 200703 15 30"},
	} {
		holdList(t, read(t, c.rule), at(t, c.start+"T090000"), at(t, c.end+"T000000"), onDays(t, c.want, "090000"))
	}
	// Each day in January of three years, and each twentieth minute of the working hours of six days, said in two ways.
	for _, c := range []struct{ one, other, start, end string }{
		{"FREQ=YEARLY;UNTIL=20000131T140000;BYMONTH=1;BYDAY=SU,MO,TU,WE,TH,FR,SA", "FREQ=DAILY;UNTIL=20000131T140000;BYMONTH=1", "19980101T090000", "20010101T000000"},
		{"FREQ=DAILY;BYHOUR=9,10,11,12,13,14,15,16;BYMINUTE=0,20,40", "FREQ=MINUTELY;INTERVAL=20;BYHOUR=9,10,11,12,13,14,15,16", "19970902T090000", "19970908T000000"},
	} {
		one, e := List(read(t, c.one), at(t, c.start), at(t, c.end), 1000)
		if e != api.OK || len(one) != 93 && len(one) != 144 {
			t.Errorf("%s: %d moments, %d", c.one, len(one), e)
		}
		holdList(t, read(t, c.other), at(t, c.start), at(t, c.end), one)
	}
}

func TestP8_1Known(t *testing.T) {
	for _, c := range []struct{ rule, start, end, want string }{
		// The end is none of them, the start and Until are.
		{"FREQ=DAILY;COUNT=3", "20260101T000000", "20270101T000000", "20260101T000000 20260102T000000 20260103T000000"},
		{"FREQ=DAILY", "20260101T000000", "20260103T000000", "20260101T000000 20260102T000000"},
		{"FREQ=DAILY", "20260101T000000", "20260103T000001", "20260101T000000 20260102T000000 20260103T000000"},
		{"FREQ=DAILY;UNTIL=20260103T000000", "20260101T000000", "20270101T000000", "20260101T000000 20260102T000000 20260103T000000"},
		{"FREQ=DAILY;UNTIL=20260102T235959", "20260101T000000", "20270101T000000", "20260101T000000 20260102T000000"},
		{"FREQ=DAILY;UNTIL=20260103T000000", "20260101T000000", "20260103T000000", "20260101T000000 20260102T000000"},
		{"FREQ=SECONDLY;UNTIL=20260101T000002", "20260101T000000", "20360101T000000", "20260101T000000 20260101T000001 20260101T000002"},
		{"FREQ=DAILY;UNTIL=19700101T000000", "19691231T000000", "19710101T000000", "19691231T000000 19700101T000000"},
		{"FREQ=DAILY;UNTIL=19691231T235959", "19691231T000000", "19710101T000000", "19691231T000000"},
		// Nothing lies between them.
		{"FREQ=SECONDLY", "20260101T000000", "20260101T000000", ""},
		{"FREQ=SECONDLY", "20260101T000000", "20251231T235959", ""},
		{"FREQ=SECONDLY", "20260101T000000", "00010101T000000", ""},
		{"FREQ=SECONDLY;COUNT=1", "99991231T235959", "00010101T000000", ""},
		{"FREQ=SECONDLY;UNTIL=20251231T235959", "20260101T000000", "20270101T000000", ""},
		{"FREQ=SECONDLY;UNTIL=00010101T000000", "20260101T000000", "20270101T000000", ""},
		{"FREQ=SECONDLY;UNTIL=00010101T000000", "00010102T000000", "00020101T000000", ""},
		{"FREQ=MONTHLY;BYMONTHDAY=1,2;BYSETPOS=1;UNTIL=00010101T000000", "00010102T000000", "00020101T000000", ""},
		// A start that does not belong is not counted.
		{"FREQ=WEEKLY;BYDAY=MO;COUNT=2", "20260107T090000", "20270101T000000", "20260112T090000 20260119T090000"},
		{"FREQ=DAILY;BYHOUR=8,10;COUNT=2", "20260107T090000", "20270101T000000", "20260107T100000 20260108T080000"},
		{"FREQ=DAILY;BYHOUR=8,9,10;BYSETPOS=1,3;COUNT=3", "20260107T090000", "20270101T000000", "20260107T100000 20260108T080000 20260108T100000"},
		{"FREQ=MONTHLY;BYMONTHDAY=5,15,25;BYSETPOS=1,2;COUNT=3", "20260110T000000", "20270101T000000", "20260115T000000 20260205T000000 20260215T000000"},
		// A place is counted in the whole period, whatever Until and the end leave of it.
		{"FREQ=MONTHLY;BYMONTHDAY=5,15,25;BYSETPOS=-1", "20260101T000000", "20260220T000000", "20260125T000000"},
		{"FREQ=MONTHLY;BYMONTHDAY=5,15,25;BYSETPOS=-2;UNTIL=20260216T000000", "20260101T000000", "20270101T000000", "20260115T000000 20260215T000000"},
		{"FREQ=YEARLY;BYMONTH=1,2,12;BYSETPOS=2", "20260115T000000", "20290101T000000", "20260215T000000 20270215T000000 20280215T000000"},
		// From the front and from the back at once: one moment is told once, and in order.
		{"FREQ=DAILY;BYHOUR=1,2,3;BYSETPOS=-3,-2,1,2", "20260101T000000", "20260102T000000", "20260101T010000 20260101T020000"},
		{"FREQ=WEEKLY;BYDAY=MO,WE,FR;BYSETPOS=-3,-1,1,3", "20260105T000000", "20260119T000000", "20260105T000000 20260109T000000 20260112T000000 20260116T000000"},
		{"FREQ=DAILY;BYHOUR=1,2,3;BYSETPOS=-366,-4,4,366", "20260101T000000", "20260102T000000", ""},
		{"FREQ=MONTHLY;BYMONTHDAY=31;BYSETPOS=-1,1,2", "20260131T000000", "20260601T000000", "20260131T000000 20260331T000000 20260531T000000"},
		// Intervals that go on through days, months and years.
		{"FREQ=HOURLY;INTERVAL=7", "20251231T203015", "20260102T000000", "20251231T203015 20260101T033015 20260101T103015 20260101T173015"},
		{"FREQ=HOURLY;INTERVAL=25;COUNT=3", "20251231T235959", "20270101T000000", "20251231T235959 20260102T005959 20260103T015959"},
		{"FREQ=HOURLY;INTERVAL=1000;COUNT=3", "20260101T000000", "20270101T000000", "20260101T000000 20260211T160000 20260325T080000"},
		{"FREQ=MINUTELY;INTERVAL=1000;COUNT=3", "20260101T000007", "20270101T000000", "20260101T000007 20260101T164007 20260102T092007"},
		{"FREQ=SECONDLY;INTERVAL=1000;COUNT=3", "20260101T235959", "20270101T000000", "20260101T235959 20260102T001639 20260102T003319"},
		{"FREQ=DAILY;INTERVAL=1000;COUNT=3", "20260101T120000", "20350101T000000", "20260101T120000 20280927T120000 20310624T120000"},
		{"FREQ=WEEKLY;INTERVAL=100;BYDAY=MO,SU", "20260104T000000", "20300101T000000", "20260104T000000 20271129T000000 20271205T000000 20291029T000000 20291104T000000"},
		{"FREQ=MONTHLY;INTERVAL=5", "20260131T000000", "20300101T000000", "20260131T000000 20280731T000000 20281231T000000 20290531T000000 20291031T000000"},
		{"FREQ=YEARLY;INTERVAL=9", "20260131T000000", "20350201T000000", "20260131T000000 20350131T000000"},
		{"FREQ=YEARLY;INTERVAL=1000", "20260131T000000", "20350201T000000", "20260131T000000"},
		// Each hour's places, each minute's, each second's.
		{"FREQ=HOURLY;INTERVAL=5;BYMINUTE=0,30;BYSECOND=1,2;BYSETPOS=-1,1", "20260101T230002", "20260102T050000", "20260101T233002 20260102T040001 20260102T043002"},
		{"FREQ=MINUTELY;INTERVAL=2;BYSECOND=1,2,3;BYSETPOS=2;BYMINUTE=4,6,7", "20260101T230000", "20260102T000500", "20260101T230402 20260101T230602 20260102T000402"},
		{"FREQ=SECONDLY;INTERVAL=3;BYSECOND=6,7,9;BYSETPOS=1;BYMINUTE=0", "20260101T230000", "20260102T010000", "20260101T230006 20260101T230009 20260102T000006 20260102T000009"},
		{"FREQ=SECONDLY;BYSECOND=6,7;BYSETPOS=-2,2", "20260101T230000", "20260102T010000", ""},
		// None at all, of however many.
		{"FREQ=SECONDLY;BYMONTH=2;BYMONTHDAY=30", "20260101T000000", "20360101T000000", ""},
		{"FREQ=SECONDLY;INTERVAL=60;BYSECOND=" + each(1, 59, 1), "20260101T000000", "20360101T000000", ""},
		{"FREQ=SECONDLY;INTERVAL=8;BYMINUTE=" + each(1, 59, 2) + ";BYSECOND=" + each(0, 59, 8), "20260101T000000", "20360101T000000", ""},
		{"FREQ=MINUTELY;INTERVAL=2;BYMINUTE=" + each(1, 59, 2), "20260101T000000", "20360101T000000", ""},
		{"FREQ=HOURLY;INTERVAL=2;BYHOUR=" + each(1, 23, 2), "20260101T000000", "20360101T000000", ""},
		{"FREQ=MINUTELY;BYSECOND=1;BYSETPOS=2", "20260101T000000", "20360101T000000", ""},
		// The first and the last of all days.
		{"FREQ=DAILY", "00010101T000000", "00010103T000000", "00010101T000000 00010102T000000"},
		{"FREQ=WEEKLY;BYDAY=SU,MO;WKST=SU;BYSETPOS=1", "00010101T000000", "00010109T000000", "00010101T000000 00010107T000000"},
		{"FREQ=DAILY;BYHOUR=23;BYMINUTE=59;BYSECOND=58,59", "99991230T000000", "99991231T235959", "99991230T235958 99991230T235959 99991231T235958"},
		{"FREQ=WEEKLY;BYDAY=TH,FR,SA;BYSETPOS=-1", "99991220T090000", "99991231T235959", "99991225T090000 99991231T090000"},
		{"FREQ=YEARLY;BYWEEKNO=1,52;BYDAY=MO,FR;BYSETPOS=-1,1", "99980101T090000", "99991231T235959", "99981225T090000 99990104T090000 99991231T090000"},
		{"FREQ=YEARLY;BYMONTH=12;BYMONTHDAY=31;BYHOUR=23;UNTIL=99991231T235959", "99971231T000000", "99991231T235959", "99971231T230000 99981231T230000 99991231T230000"},
		{"FREQ=MONTHLY;BYMONTHDAY=-1,1;BYSETPOS=2;UNTIL=99991231T235959", "99991101T000000", "99991231T235959", "99991130T000000 99991231T000000"},
	} {
		r, start, end, want := read(t, c.rule), at(t, c.start), at(t, c.end), atAll(t, c.want)
		holdList(t, r, start, end, want)
		for _, after := range append([]int{start - 1, start, end - 1, end, math.MinInt, math.MaxInt}, want...) {
			holdNext(t, r, start, after, end, want)
		}
	}
}

// Where none is too many, and where the bounds lie.
func TestP8_1Bounds(t *testing.T) {
	daily, secondly := plain(4), plain(7)
	counted := func(freq, n int) api.Rule { return api.Rule{Freq: freq, Interval: 1, Count: n} }
	never := read(t, "FREQ=SECONDLY;BYMONTH=2;BYMONTHDAY=30")
	for i, c := range []struct {
		r                api.Rule
		start, end, most int
		size             int
		want             api.Errno
	}{
		{daily, 0, 10 * day, 10, 10, api.OK}, {daily, 0, 10 * day, 9, 0, api.ErrMany}, {daily, 0, 10*day + 1, 10, 0, api.ErrMany}, {daily, 0, 1, 1, 1, api.OK}, {daily, 0, day + 1, 1, 0, api.ErrMany},
		{daily, 0, 3660 * day, 4096, 3660, api.OK}, {daily, 0, 3660*day + 1, 4096, 0, api.ErrRange}, {daily, -1, 3660 * day, 4096, 0, api.ErrRange}, {daily, 1, 3660*day + 1, 4096, 3660, api.OK},
		{never, 0, 3660 * day, 1, 0, api.OK}, {never, 0, 3660*day + 1, 1, 0, api.ErrRange},
		{daily, 0, 10, 0, 0, api.ErrRange}, {daily, 0, 10, -1, 0, api.ErrRange}, {daily, 0, 10, 4097, 0, api.ErrRange}, {daily, 0, 10, math.MinInt, 0, api.ErrRange}, {daily, 0, 10, math.MaxInt, 0, api.ErrRange},
		{daily, 0, 0, 0, 0, api.ErrRange}, {daily, 0, -5, 4097, 0, api.ErrRange}, {daily, 0, -5, 4096, 0, api.OK}, {daily, 0, firstMoment, 1, 0, api.OK}, {daily, lastMoment, firstMoment, 1, 0, api.OK}, {daily, firstMoment, lastMoment, 1, 0, api.ErrRange},
		{secondly, 0, 4096, 4096, 4096, api.OK}, {secondly, 0, 4097, 4096, 0, api.ErrMany}, {secondly, 0, 3660 * day, 10, 0, api.ErrMany}, {secondly, firstMoment, firstMoment + 9, 9, 9, api.OK}, {secondly, lastMoment - 9, lastMoment, 9, 9, api.OK},
		{counted(7, 4096), 0, 3660 * day, 4096, 4096, api.OK}, {counted(7, 11), 0, day, 10, 0, api.ErrMany}, {counted(7, 10), 0, day, 10, 10, api.OK}, {counted(7, 11), 0, 10, 10, 10, api.OK}, {counted(7, 4096), 0, 3660 * day, 4095, 0, api.ErrMany},
		{counted(7, 4097), 0, 10, 100, 0, api.ErrRange}, {counted(7, 1), 0, 3660 * day, 1, 1, api.OK}, {counted(1, 4), 0, 3660 * day, 4, 4, api.OK},
		// Of more than 100000 none has a place.
		{read(t, "FREQ=YEARLY;BYDAY=MO,TU,WE,TH,FR,SA,SU;BYHOUR="+each(0, 23, 1)+";BYMINUTE="+each(0, 11, 1)+";BYSETPOS=1"), 0, 365 * day, 9, 0, api.OK},
		{read(t, "FREQ=YEARLY;BYDAY=MO,TU,WE,TH,FR,SA,SU;BYHOUR="+each(0, 23, 1)+";BYMINUTE="+each(0, 10, 1)+";BYSETPOS=1"), 0, 365 * day, 9, 1, api.OK},
	} {
		all, e := List(c.r, c.start, c.end, c.most)
		n, f := Count(c.r, c.start, c.end, c.most)
		if len(all) != c.size || e != c.want || n != c.size || f != c.want {
			t.Errorf("case %d: List %d moments, %d, Count %d, %d, not %d, %d", i, len(all), e, n, f, c.size, c.want)
		}
	}
}

// Of a year of more than 100000 none has a place, of just as many each has;
// without places they are as others are.
func TestP8_1P8_2Full(t *testing.T) {
	start, end := at(t, "20240101T000000"), at(t, "20260101T000000")
	const hours, yearly = "0,1,2,3,4,5,6,7,8,9,10,11,12,13,14,15,16,17,18,19", "FREQ=YEARLY;BYMONTHDAY="
	for _, c := range []struct{ rule, want string }{
		// 100000 a year.
		{yearly + each(1, 10, 1) + ";BYMONTH=" + each(1, 10, 1) + ";BYHOUR=" + hours + ";BYMINUTE=" + each(0, 49, 1) + ";BYSETPOS=-2,1", "20240101T000000 20241010T194800 20250101T000000 20251010T194800"},
		// 99936 a year, of a leap year 100224.
		{yearly + each(1, 29, 1) + ";BYHOUR=" + hours + ",20,21,22,23;BYMINUTE=" + each(0, 11, 1) + ";BYSETPOS=-1,1", "20250101T000000 20251229T231100"},
		{yearly + each(1, 30, 1) + ";BYHOUR=" + hours + ",20,21,22,23;BYMINUTE=" + each(0, 11, 1) + ";BYSETPOS=-1,1", ""},
	} {
		r, want := read(t, c.rule), atAll(t, c.want)
		holdList(t, r, start, end, want)
		for _, after := range append([]int{start - 1, start, end - 1}, want...) {
			holdNext(t, r, start, after, end, want)
		}
		r.Pos = nil
		if all, e := List(r, start, end, api.MaxOcc); len(all) > 0 || e != api.ErrMany {
			t.Errorf("List of %s: %d moments, %d", told(r), len(all), e)
		}
		holdList(t, r, start, start+3*60, []int{start, start + 60, start + 120})
		holdNext(t, r, start, start+60, end, []int{start, start + 60, start + 120})
		r.Count = 2
		holdList(t, r, start, end, []int{start, start + 60})
	}
}

// mayNot holds rules that may not be.
func mayNot() []api.Rule {
	all := []api.Rule{
		{}, plain(0), plain(8), plain(-1), plain(math.MinInt), plain(math.MaxInt),
		{Freq: 4}, {Freq: 4, Interval: -1}, {Freq: 4, Interval: 1001}, {Freq: 4, Interval: 1, Count: -1}, {Freq: 4, Interval: 1, Count: api.MaxOcc + 1},
		{Freq: 4, Interval: 1, Wkst: 7}, {Freq: 4, Interval: 1, Until: 1}, {Freq: 4, Interval: 1, Ends: true, Until: math.MaxInt}, {Freq: 4, Interval: 1, Ends: true, Until: 5, Count: 1},
		{Freq: 4, Interval: 1, Month: []int{1, 1}}, {Freq: 2, Interval: 1, Week: []int{1}}, {Freq: 4, Interval: 1, YearDay: []int{1}}, {Freq: 3, Interval: 1, MonthDay: []int{1}}, {Freq: 4, Interval: 1, Day: []api.Day{{N: 1, W: 3}}},
		{Freq: 4, Interval: 1, Hour: []int{0, 24}}, {Freq: 4, Interval: 1, Pos: []int{1}}, {Freq: 4, Interval: 1, Hour: []int{0}, Pos: []int{0, 1}},
		{Freq: 4, Interval: 1, Hour: upto(0, 23), Minute: upto(0, 41)},
	}
	return all
}

// A rule, a start and an end that may not be: ErrRange, and none.
func TestP8_1P8_2None(t *testing.T) {
	none := func(r api.Rule, start, end int) {
		t.Helper()
		for _, most := range []int{1, 10, 4096, 0, 4097} {
			if all, e := List(r, start, end, most); len(all) > 0 || e != api.ErrRange {
				t.Errorf("List(%+v, %d, %d, %d) = %v, %d", r, start, end, most, all, e)
			}
			if n, e := Count(r, start, end, most); n != 0 || e != api.ErrRange {
				t.Errorf("Count(%+v, %d, %d, %d) = %d, %d", r, start, end, most, n, e)
			}
		}
		for _, after := range []int{math.MinInt, -1, 0, end - 1, math.MaxInt} {
			if n, ok := Next(r, start, after, end); n != 0 || ok {
				t.Errorf("Next(%+v, %d, %d, %d) = %d, %t", r, start, after, end, n, ok)
			}
		}
	}
	for _, r := range mayNot() {
		none(r, 0, 10)
		none(r, 10, 0)
	}
	for freq := 1; freq <= 7; freq++ {
		for _, r := range []api.Rule{plain(freq), {Freq: freq, Interval: 1, Count: 3}, {Freq: freq, Interval: 1, Hour: []int{0, 1}, Pos: []int{1}}} {
			for _, no := range noMoment {
				none(r, 0, no)
				none(r, no, 0)
				none(r, no, no)
			}
			none(r, 0, api.MaxDays*day+1)
			none(r, firstMoment, lastMoment)
		}
	}
}

func TestP8_2Next(t *testing.T) {
	daily, secondly := plain(4), plain(7)
	counted := func(freq, n int) api.Rule { return api.Rule{Freq: freq, Interval: 1, Count: n} }
	const far = api.MaxDays * day
	for i, c := range []struct {
		r                 api.Rule
		start, after, end int
		want              int
		ok                bool
	}{
		// A moment 0 is one.
		{daily, 0, -1, day, 0, true}, {daily, 0, 0, day, 0, false}, {daily, 0, 0, day + 1, day, true}, {daily, 0, 5, day + 1, day, true}, {daily, 0, day, day + 1, 0, false},
		{daily, 0, math.MinInt, 1, 0, true}, {daily, 0, math.MinInt, 0, 0, false}, {daily, 5, 3, far, 5, true}, {daily, 5, 5, far, day + 5, true}, {daily, 5, 6, far, day + 5, true},
		{daily, 0, math.MaxInt, day, 0, false}, {daily, 0, math.MaxInt - 1, day, 0, false}, {daily, 0, 5, 3, 0, false}, {daily, 0, -5, -3, 0, false},
		{daily, 0, far - day - 1, far, far - day, true}, {daily, 0, far - day, far, 0, false}, {daily, 0, far - day, far + 1, 0, false}, {daily, 1, far - day + 1, far + 1, 0, false},
		// No bound on how many: List would say ErrMany.
		{secondly, 0, 100000, far, 100001, true}, {secondly, 0, far - 2, far, far - 1, true}, {secondly, 0, far - 1, far, 0, false}, {secondly, 0, -1, far, 0, true}, {plain(6), 7, 60 * 1000000, far, 60*1000000 + 7, true},
		// A Count holds, wherever after lies.
		{counted(4, 3), 0, day, far, 2 * day, true}, {counted(4, 3), 0, 2 * day, far, 0, false}, {counted(4, 3), 0, 2*day - 1, far, 2 * day, true}, {counted(4, 3), 0, 2*day - 1, 2 * day, 0, false},
		{counted(7, 4096), 0, 4094, far, 4095, true}, {counted(7, 4096), 0, 4095, far, 0, false}, {counted(7, 4096), 0, far - 2, far, 0, false}, {counted(7, 1), 0, -1, far, 0, true}, {counted(7, 1), 0, 0, far, 0, false},
		{api.Rule{Freq: 7, Interval: 1, Ends: true, Until: 9}, 0, 8, far, 9, true}, {api.Rule{Freq: 7, Interval: 1, Ends: true, Until: 9}, 0, 9, far, 0, false}, {api.Rule{Freq: 7, Interval: 1, Ends: true, Until: 9}, 0, 8, 9, 0, false},
		// A place is counted in the whole period, wherever after lies.
		{read(t, "FREQ=MONTHLY;BYMONTHDAY=5,15,25;BYSETPOS=2"), 0, 8 * day, far, 14 * day, true}, {read(t, "FREQ=MONTHLY;BYMONTHDAY=5,15,25;BYSETPOS=2"), 0, 14 * day, far, (31 + 14) * day, true}, {read(t, "FREQ=MONTHLY;BYMONTHDAY=5,15,25;BYSETPOS=2"), 0, (31 + 13) * day, far, (31 + 14) * day, true},
		{read(t, "FREQ=YEARLY;BYMONTH=1,2,3;BYSETPOS=-2"), 0, (3*365 + 1 + 31) * day, far, (4*365 + 1 + 31) * day, true}, {read(t, "FREQ=YEARLY;BYMONTH=1,2,3;BYSETPOS=-2"), 0, (3*365 + 1 + 30) * day, far, (3*365 + 1 + 31) * day, true},
		{read(t, "FREQ=MONTHLY;INTERVAL=2;BYMONTHDAY=5,15,25;BYSETPOS=2"), 0, 35 * day, far, (31 + 28 + 14) * day, true},
		// The first and the last moment there is.
		{secondly, firstMoment, firstMoment - 1, firstMoment + 2, firstMoment, true}, {secondly, firstMoment, firstMoment, firstMoment + 2, firstMoment + 1, true}, {secondly, lastMoment - 3, lastMoment - 2, lastMoment, lastMoment - 1, true}, {secondly, lastMoment - 3, lastMoment - 1, lastMoment, 0, false}, {secondly, lastMoment, lastMoment - 1, lastMoment, 0, false},
		{daily, lastMoment, math.MaxInt, lastMoment, 0, false}, {daily, firstMoment, math.MinInt, firstMoment, 0, false}, {daily, firstMoment, math.MinInt, firstMoment + 1, firstMoment, true},
	} {
		if n, ok := Next(c.r, c.start, c.after, c.end); n != c.want || ok != c.ok {
			t.Errorf("case %d: Next of %s from %d behind %d to %d: %d, %t, not %d, %t", i, told(c.r), c.start, c.after, c.end, n, ok, c.want, c.ok)
		}
	}
}

// One after another Next tells what List does.
func TestP8_2Steps(t *testing.T) {
	for _, s := range []string{
		"FREQ=YEARLY;BYMONTH=2,7;BYDAY=1MO,-1SU", "FREQ=YEARLY;BYWEEKNO=1,-1;BYDAY=TU;BYSETPOS=1", "FREQ=MONTHLY;BYMONTHDAY=31,1;BYSETPOS=-1", "FREQ=WEEKLY;BYDAY=MO,SA;INTERVAL=5;BYHOUR=1,2",
		"FREQ=WEEKLY;BYDAY=MO,SA;BYSETPOS=-1,2;COUNT=77", "FREQ=DAILY;INTERVAL=30", "FREQ=HOURLY;INTERVAL=997", "FREQ=MINUTELY;BYMONTHDAY=1;BYMINUTE=0;BYHOUR=7,9", "FREQ=SECONDLY;INTERVAL=100;BYHOUR=3;BYDAY=MO;BYSECOND=27;COUNT=300",
	} {
		r, start := read(t, s), at(t, "20240229T031507")
		end := start + api.MaxDays*day
		all, e := List(r, start, end, api.MaxOcc)
		if e != api.OK || len(all) < 10 {
			t.Fatalf("%s: %d moments, %d", s, len(all), e)
		}
		after := math.MinInt
		for _, want := range all {
			n, ok := Next(r, start, after, end)
			if n != want || !ok {
				t.Fatalf("Next of %s behind %d: %d, %t, not %d", s, after, n, ok, want)
			}
			after = n
		}
		if n, ok := Next(r, start, after, end); n != 0 || ok {
			t.Fatalf("Next of %s behind the last: %d, %t", s, n, ok)
		}
	}
}

// roomy is the list in the midst of memory that has something else around it.
func roomy[T any](list []T, other T) ([]T, []T) {
	all := append([]T{other, other}, list...)
	all = append(all, other, other, other)
	return all[2 : 2+len(list)], all
}

// What is handed in stays as it is, what lies behind it too.
func TestP8_3In(t *testing.T) {
	r := api.Rule{Interval: 1}
	var alls [][]int
	for _, f := range []struct {
		list *[]int
		has  []int
	}{{&r.Month, []int{1, 2}}, {&r.YearDay, []int{-1, 1}}, {&r.MonthDay, []int{1, 31}}, {&r.Hour, []int{3, 4}}, {&r.Minute, []int{5}}, {&r.Second, []int{6, 7, 8}}, {&r.Pos, []int{-1, 1, 2}}} {
		list, all := roomy(f.has, 1000)
		*f.list = list
		alls = append(alls, all)
	}
	ds, allDays := roomy([]api.Day{{N: -1, W: 3}, {N: 0, W: 3}}, api.Day{N: 99, W: 99})
	was := make([][]int, len(alls))
	for i, all := range alls {
		was[i] = slices.Clone(all)
	}
	wasDays := slices.Clone(allDays)
	for freq := 1; freq <= 7; freq++ {
		r := r
		r.Freq = freq
		if freq == 1 {
			r.Day = ds
		} else {
			r.YearDay = nil
		}
		if freq == 3 {
			r.MonthDay = nil
		}
		all, e := List(r, 0, 366*day, api.MaxOcc)
		n, f := Count(r, 0, 366*day, api.MaxOcc)
		if len(all) == 0 || e != api.OK || n != len(all) || f != api.OK {
			t.Errorf("Freq %d: %d moments, %d, %d, %d", freq, len(all), e, n, f)
		}
		if next, ok := Next(r, 0, -1, 366*day); !ok || next != all[0] {
			t.Errorf("Freq %d: Next %d, %t", freq, next, ok)
		}
		List(r, 0, 366*day, 1)
		List(r, 0, 366*day, 0)
	}
	for i, all := range alls {
		if !slices.Equal(all, was[i]) {
			t.Errorf("list %d is %v, was %v", i, all, was[i])
		}
	}
	if !slices.Equal(allDays, wasDays) {
		t.Errorf("days are %v, were %v", allDays, wasDays)
	}
}

// Whatever is written into an answer, spare room too, neither another answer
// nor the rule shows it; empty lists are as none.
func TestP8_3Out(t *testing.T) {
	for _, s := range []string{"FREQ=SECONDLY;COUNT=9", "FREQ=MINUTELY;BYSECOND=1,2,3;COUNT=9", "FREQ=HOURLY;BYMINUTE=5,6,7,8,9;BYSETPOS=1,2", "FREQ=DAILY;BYHOUR=1,2,3", "FREQ=DAILY;BYHOUR=1,2,3;BYSETPOS=-1,1", "FREQ=WEEKLY;BYDAY=MO,FR,SU", "FREQ=MONTHLY;BYDAY=MO,FR;BYSETPOS=1,2,-1", "FREQ=YEARLY;BYWEEKNO=1,2,3", "FREQ=YEARLY;BYMONTH=2;BYMONTHDAY=30"} {
		r := read(t, s)
		want, e := List(r, 0, 20*day, 1000)
		if e != api.OK {
			t.Fatalf("List of %s: %d", s, e)
		}
		kept := slices.Clone(want)
		var lists [][]int
		for range 3 {
			all, _ := List(r, 0, 20*day, 1000)
			lists = append(lists, all)
		}
		for i, list := range lists {
			for _, other := range lists[i:] {
				if !slices.Equal(other, kept) {
					t.Fatalf("List of %s: %v, was %v", s, other, kept)
				}
			}
			list = list[:cap(list)]
			for k := range list {
				list[k] = -5
			}
		}
		if again, _ := List(r, 0, 20*day, 1000); !slices.Equal(again, kept) || !slices.Equal(want, kept) || !rule.Same(r, read(t, s)) {
			t.Fatalf("List of %s: %v, was %v", s, again, kept)
		}
		empty := r
		for _, list := range []*[]int{&empty.Month, &empty.Week, &empty.YearDay, &empty.MonthDay, &empty.Hour, &empty.Minute, &empty.Second, &empty.Pos} {
			if len(*list) == 0 {
				*list = []int{}
			}
		}
		if len(empty.Day) == 0 {
			empty.Day = []api.Day{}
		}
		if again, _ := List(empty, 0, 20*day, 1000); !slices.Equal(again, kept) {
			t.Fatalf("List of %s with empty lists: %v, not %v", s, again, kept)
		}
	}
}

// A rule is not kept: what is written into its lists is what the next call
// sees, and nothing of the call ahead.
func TestP8_3NotKept(t *testing.T) {
	r := api.Rule{Freq: 4, Interval: 1, Hour: []int{1, 2}, Pos: []int{1}}
	holdList(t, r, 0, 2*day, []int{hour, day + hour})
	r.Hour[0], r.Hour[1] = 5, 6
	holdList(t, r, 0, 2*day, []int{5 * hour, day + 5*hour})
	r.Pos[0] = -1
	holdList(t, r, 0, 2*day, []int{6 * hour, day + 6*hour})
}

// Each second of a window is told just if it is a member.
func TestP8_4Members(t *testing.T) {
	t.Parallel()
	for _, s := range []string{
		"FREQ=SECONDLY;INTERVAL=13;BYMINUTE=59,0", "FREQ=SECONDLY;INTERVAL=71", "FREQ=SECONDLY;BYHOUR=23,0;BYSECOND=0,59;BYSETPOS=1", "FREQ=MINUTELY;INTERVAL=7;BYSECOND=0,59;BYSETPOS=-1", "FREQ=MINUTELY;INTERVAL=11",
		"FREQ=HOURLY;INTERVAL=5;BYMINUTE=0,59;BYSECOND=0,59;BYSETPOS=2,3", "FREQ=HOURLY;BYDAY=TH", "FREQ=DAILY;BYHOUR=0,12,23;BYMINUTE=0,59;BYSETPOS=1,-1", "FREQ=WEEKLY;BYDAY=WE,TH;WKST=TH;BYHOUR=0,23;BYSETPOS=2,3",
		"FREQ=MONTHLY;BYMONTHDAY=-1,1;BYHOUR=0,23", "FREQ=YEARLY;BYYEARDAY=1,-1;BYHOUR=0,23;BYSETPOS=-1,1", "FREQ=SECONDLY;INTERVAL=60;UNTIL=20260101T003000",
	} {
		r, start := read(t, s), at(t, "20251230T223059")
		end := start + 3*day
		var want []int
		for u := start; u < end; u++ {
			if member.Has(r, start, u) {
				want = append(want, u)
			}
		}
		if len(want) < 2 || len(want) > api.MaxOcc {
			t.Fatalf("%s: %d members", s, len(want))
		}
		holdList(t, r, start, end, want)
		// None ahead of the start.
		holdList(t, r, start, start, nil)
		// A later end tells the same ones first; so does a Count.
		for _, n := range []int{1, 2, len(want) / 2, len(want) - 1, len(want)} {
			if n < 1 {
				continue
			}
			holdList(t, r, start, want[n-1], want[:n-1])
			holdList(t, r, start, want[n-1]+1, want[:n])
			if !r.Ends {
				c := r
				c.Count = n
				holdList(t, c, start, end, want[:n])
				holdList(t, c, start, want[n-1], want[:n-1])
			}
		}
	}
}

// Lists of whole windows: they rise, each is a member, a later end tells the
// same ones first, and each that lies a second off is a member just if it is
// told.
func TestP8_4Long(t *testing.T) {
	t.Parallel()
	rnd := rand.New(rand.NewSource(84))
	long := 0
	for i := range 700 {
		r := random(rnd, 1+i%7)
		start := rnd.Intn(1<<34) - 1<<33
		end := start + api.MaxDays*day
		all, e := List(r, start, end, api.MaxOcc)
		if e == api.ErrMany {
			if next, ok := Next(r, start, start-1, end); !ok || !member.Has(r, start, next) {
				t.Fatalf("Next of %s from %d: %d, %t", told(r), start, next, ok)
			}
			continue
		}
		if e != api.OK {
			t.Fatalf("List of %s from %d: %d", told(r), start, e)
		}
		long += count(len(all) > 100)
		step := 1 + len(all)/20
		for k, u := range all {
			if u < start || u >= end || k > 0 && u <= all[k-1] {
				t.Fatalf("List of %s from %d: %d at %d", told(r), start, u, k)
			}
			if k%step > 0 {
				continue
			}
			if !member.Has(r, start, u) {
				t.Fatalf("List of %s from %d: %d is no member", told(r), start, u)
			}
			for _, off := range []int{1, -1, 60, 3600, day, 7 * day} {
				_, in := slices.BinarySearch(all, u+off)
				if u+off < end && (r.Count == 0 || u+off < all[len(all)-1]) && in != member.Has(r, start, u+off) {
					t.Fatalf("List of %s from %d: %d is %t", told(r), start, u+off, in)
				}
			}
			if short, e := List(r, start, u, api.MaxOcc); !slices.Equal(short, all[:k]) || e != api.OK {
				t.Fatalf("List of %s from %d to %d: %d moments, %d, not %d", told(r), start, u, len(short), e, k)
			}
		}
	}
	if long < 100 {
		t.Fatalf("%d long ones", long)
	}
}

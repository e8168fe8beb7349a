package meet

import (
	"bytes"
	"maps"
	"math"
	"math/rand"
	"regexp"
	"slices"
	"strconv"
	"strings"
	"testing"

	"convoker/api"
	"convoker/expand"
	"convoker/fold"
	"convoker/rule"
	"convoker/stamp"
	"convoker/zone"
)

const (
	hour = 3600

	startText = "DTSTART;TZID=1:20260105T090000"
	durText   = "DURATION:PT1H"
	ruleText  = "RRULE:FREQ=WEEKLY;COUNT=2"
	dateText  = "RDATE:20260106T090000,20260107T100000"
	outText   = "EXDATE:20260112T090000"
)

func at(t *testing.T, s string) int {
	t.Helper()
	n, e := stamp.Parse(s)
	if e != api.OK {
		t.Fatalf("%s: error %d", s, e)
	}
	return n
}

func atAll(t *testing.T, s string) []int {
	t.Helper()
	var all []int
	for _, text := range strings.Fields(s) {
		all = append(all, at(t, text))
	}
	return all
}

// lines is the text of the lines, none of them folded.
func lines(l ...string) string {
	return strings.Join(l, "\r\n") + "\r\n"
}

func read(t *testing.T, l ...string) api.Meeting {
	t.Helper()
	m, place, e := Parse([]byte(lines(l...)))
	if e != api.OK {
		t.Fatalf("Parse(%q): %d, %d", l, place, e)
	}
	return m
}

// full has all lines; plain only those that may not lack.
func full() api.Meeting {
	return api.Meeting{
		Zone: 1, Start: 1767603600, Dur: hour, Recurs: true, Rule: api.Rule{Freq: 3, Interval: 1, Count: 2},
		Dates: []int{1767690000, 1767780000}, Except: []int{1768208400},
	}
}

func plain() api.Meeting {
	return api.Meeting{Start: 1767603600, Dur: hour}
}

// recurring is a meeting of zone 0 that recurs by the rule.
func recurring(t *testing.T, start, text string) api.Meeting {
	t.Helper()
	r, _, e := rule.Parse(text)
	if e != api.OK {
		t.Fatalf("%s: error %d", text, e)
	}
	return api.Meeting{Start: at(t, start), Dur: hour, Recurs: true, Rule: r}
}

// middle is a zone of an hour, and of two in summer from 1996 on.
func middle() api.Zone {
	return api.Zone{Base: 3600, From: 1996, Years: []api.Yearly{{Month: 3, Nth: 5, Wday: 6, Sec: 3600, Off: 7200}, {Month: 10, Nth: 5, Wday: 6, Sec: 3600, Off: 3600}}}
}

// same tells whether two meetings are the same, field by field; nil and the
// empty list are the same.
func same(a, b api.Meeting) bool {
	return a.Zone == b.Zone && a.Start == b.Start && a.Dur == b.Dur && a.Recurs == b.Recurs && rule.Same(a.Rule, b.Rule) && slices.Equal(a.Dates, b.Dates) && slices.Equal(a.Except, b.Except)
}

// upto is n numbers from lo on, by so many.
func upto(lo, by, n int) []int {
	var all []int
	for i := range n {
		all = append(all, lo+i*by)
	}
	return all
}

// eachText calls f with each text of at most n of the letters.
func eachText(letters string, n int, f func(s string)) {
	f("")
	if n == 0 {
		return
	}
	for _, c := range []byte(letters) {
		eachText(letters, n-1, func(s string) { f(string([]byte{c}) + s) })
	}
}

func holdParse(t *testing.T, s string, want api.Meeting, place int, err api.Errno) {
	t.Helper()
	m, at, e := Parse([]byte(s))
	if !same(m, want) || at != place || e != err {
		t.Fatalf("Parse(%.300q) = %+v, %d, %d, not %+v, %d, %d", s, m, at, e, want, place, err)
	}
}

// holdMay holds May, and that all calls refuse what may not be.
func holdMay(t *testing.T, name string, m api.Meeting, want bool) {
	t.Helper()
	if got := May(m); got != want {
		t.Errorf("%s: May(%+v) = %t", name, m, got)
	}
	b, e := Print(m)
	l, f := Local(m, firstMoment)
	s, g := Spans(m, make([]api.Zone, 16), firstEnd)
	if want {
		if len(b) == 0 || e != api.OK {
			t.Errorf("%s: Print(%+v): %d bytes, %d", name, m, len(b), e)
		}
		return
	}
	if len(b) > 0 || e != api.ErrRange || len(l) > 0 || f != api.ErrRange || len(s) > 0 || g != api.ErrRange {
		t.Errorf("%s: %d bytes, %d; %d moments, %d; %d spans, %d of %+v", name, len(b), e, len(l), f, len(s), g, m)
	}
}

func TestP9_1MayNumbers(t *testing.T) {
	for i, m := range []api.Meeting{full(), plain()} {
		name := "meeting " + strconv.Itoa(i)
		holdMay(t, name, m, true)
		for _, n := range []int{math.MinInt, -1 << 32, -16, -1, 0, 1, 2, 14, 15, 16, 17, 1 << 32, math.MaxInt} {
			m := m
			m.Zone = n
			holdMay(t, name+", Zone", m, n >= 0 && n <= 15)
		}
		for _, n := range []int{math.MinInt, -3600, -1, 0, 1, 2, 31, 59, 86400, 31 * 86400, 31*86400 + 1, 32 * 86400, 1 << 31, 1<<32 + 1, math.MaxInt} {
			m := m
			m.Dur = n
			holdMay(t, name+", Dur", m, n >= 1 && n <= 2678400)
		}
		first, last := at(t, "00020101T000000"), at(t, "99981231T235959")
		for _, n := range []int{math.MinInt, -1 << 50, at(t, "00010101T000000"), first - 1, first, first + 1, -1, 0, 1, last - 1, last, last + 1, at(t, "99991231T235959"), 1 << 50, math.MaxInt} {
			may := n >= first && n <= last
			for _, f := range []func(m *api.Meeting){func(m *api.Meeting) { m.Start = n }, func(m *api.Meeting) { m.Dates = []int{n} }, func(m *api.Meeting) { m.Except = []int{n} }} {
				m := m
				f(&m)
				holdMay(t, name+", a moment", m, may)
			}
		}
		// Ahead of another one, and behind it.
		for _, n := range []int{first - 1, first, last, last + 1} {
			for _, list := range [][]int{{n, 0}, {0, n}, {first, n, last}} {
				may := n >= first && n <= last && slices.IsSorted(list) && len(slices.Compact(slices.Clone(list))) == len(list)
				m := m
				m.Dates, m.Except = list, nil
				holdMay(t, name+", Dates", m, may)
				m.Dates, m.Except = nil, list
				holdMay(t, name+", Except", m, may)
			}
		}
	}
}

func TestP9_1MayLists(t *testing.T) {
	for _, c := range []struct {
		list []int
		may  bool
	}{
		{nil, true}, {[]int{}, true}, {[]int{5}, true}, {[]int{5, 6}, true}, {[]int{-5, 0, 5}, true}, {[]int{5, 5}, false}, {[]int{6, 5}, false}, {[]int{1, 2, 2}, false}, {[]int{1, 3, 2}, false}, {[]int{1, 2, 1}, false},
		{upto(0, 1, 63), true}, {upto(0, 86400, 64), true}, {upto(0, 1, 65), false}, {upto(0, 1, 66), false}, {upto(0, 1, 5000), false}, {append(upto(0, 1, 63), 62), false}, {append([]int{0}, upto(0, 1, 63)...), false},
		{make([]int, 64), false}, {make([]int, 65), false}, {[]int{math.MinInt, 0}, false}, {[]int{0, math.MaxInt}, false}, {[]int{math.MaxInt, math.MinInt}, false},
	} {
		for _, m := range []api.Meeting{full(), plain()} {
			m.Dates, m.Except = c.list, nil
			holdMay(t, "Dates", m, c.may)
			m.Dates, m.Except = nil, c.list
			holdMay(t, "Except", m, c.may)
			m.Dates, m.Except = c.list, c.list
			holdMay(t, "both", m, c.may)
			m.Dates = upto(100, 7, 64)
			holdMay(t, "beside 64", m, c.may)
		}
	}
}

// What recurs has a rule that may be, what does not a zero one.
func TestP9_1MayRule(t *testing.T) {
	for i, r := range []api.Rule{
		{Freq: 1, Interval: 1}, {Freq: 7, Interval: 1000, Count: 4096}, {Freq: 4, Interval: 1, Ends: true}, {Freq: 4, Interval: 1, Ends: true, Until: 1 << 31}, {Freq: 1, Interval: 1, Week: []int{1}, Wkst: 6}, {Freq: 2, Interval: 2, Day: []api.Day{{N: -1, W: 4}}, Pos: []int{1}},
		{Freq: 3, Interval: 1, Month: []int{1}}, {Freq: 1, Interval: 1, YearDay: []int{1}}, {Freq: 1, Interval: 1, MonthDay: []int{1}}, {Freq: 4, Interval: 1, Hour: []int{1}, Minute: []int{1}, Second: []int{1}},
		{Freq: 0, Interval: 1}, {Freq: 1}, {Interval: 1}, {Freq: 8, Interval: 1}, {Freq: 3, Interval: 1, Week: []int{1}}, {Freq: 4, Interval: 1, Until: 5}, {Freq: 4, Interval: 1, Count: 4097}, {Freq: 4, Interval: 1, Hour: []int{2, 1}}, {Freq: 4, Interval: 1, Pos: []int{1}},
		{Count: 1}, {Until: 1}, {Until: math.MinInt}, {Wkst: 1}, {Ends: true}, {Month: []int{1}}, {Week: []int{1}}, {YearDay: []int{1}}, {MonthDay: []int{1}}, {Day: []api.Day{{}}}, {Hour: []int{0}}, {Minute: []int{0}}, {Second: []int{0}}, {Pos: []int{1}},
	} {
		for _, m := range []api.Meeting{full(), plain()} {
			m.Rule, m.Recurs = r, true
			holdMay(t, "rule "+strconv.Itoa(i), m, rule.May(r))
			m.Recurs = false
			holdMay(t, "no rule "+strconv.Itoa(i), m, false)
		}
	}
	for _, r := range []api.Rule{{}, {Month: []int{}, Week: []int{}, YearDay: []int{}, MonthDay: []int{}, Day: []api.Day{}, Hour: []int{}, Minute: []int{}, Second: []int{}, Pos: []int{}}} {
		for _, m := range []api.Meeting{full(), plain()} {
			m.Rule, m.Recurs = r, true
			holdMay(t, "zero rule", m, false)
			m.Recurs = false
			holdMay(t, "no rule", m, true)
		}
	}
	holdMay(t, "zero", api.Meeting{}, false)
}

func TestP9_1PrintKnown(t *testing.T) {
	for i, c := range []struct {
		f    func(m *api.Meeting)
		want []string
	}{
		{func(m *api.Meeting) {}, []string{startText, durText, ruleText, dateText, outText}},
		{func(m *api.Meeting) { m.Dates = nil }, []string{startText, durText, ruleText, outText}},
		{func(m *api.Meeting) { m.Except = nil }, []string{startText, durText, ruleText, dateText}},
		{func(m *api.Meeting) { m.Dates, m.Except = []int{}, []int{} }, []string{startText, durText, ruleText}},
		{func(m *api.Meeting) { m.Recurs, m.Rule = false, api.Rule{} }, []string{startText, durText, dateText, outText}},
		{func(m *api.Meeting) { m.Recurs, m.Rule, m.Dates = false, api.Rule{}, nil }, []string{startText, durText, outText}},
		{func(m *api.Meeting) { m.Recurs, m.Rule, m.Except = false, api.Rule{}, nil }, []string{startText, durText, dateText}},
		{func(m *api.Meeting) { *m = plain() }, []string{"DTSTART;TZID=0:20260105T090000", durText}},
		{func(m *api.Meeting) { *m = plain(); m.Zone, m.Dur = 15, 31*86400 }, []string{"DTSTART;TZID=15:20260105T090000", "DURATION:P31D"}},
		{func(m *api.Meeting) { *m = plain(); m.Zone, m.Dur = 10, 28*86400 }, []string{"DTSTART;TZID=10:20260105T090000", "DURATION:P4W"}},
		{func(m *api.Meeting) { *m = plain(); m.Start, m.Dur = 0, 1 }, []string{"DTSTART;TZID=0:19700101T000000", "DURATION:PT1S"}},
		{func(m *api.Meeting) { *m = plain(); m.Start, m.Dur = firstMoment, 90061 }, []string{"DTSTART;TZID=0:00020101T000000", "DURATION:P1DT1H1M1S"}},
		{func(m *api.Meeting) { *m = plain(); m.Start, m.Dates = lastMoment, []int{firstMoment, 0, lastMoment} }, []string{"DTSTART;TZID=0:99981231T235959", durText, "RDATE:00020101T000000,19700101T000000,99981231T235959"}},
		{func(m *api.Meeting) { m.Rule = api.Rule{Freq: 1, Interval: 1} }, []string{startText, durText, "RRULE:FREQ=YEARLY", dateText, outText}},
		{func(m *api.Meeting) {
			m.Rule = api.Rule{Freq: 2, Interval: 3, Ends: true, Until: 1 << 31, Day: []api.Day{{N: -1, W: 0}, {N: 2, W: 4}}}
		}, []string{startText, durText, "RRULE:FREQ=MONTHLY;INTERVAL=3;UNTIL=20380119T031408;BYDAY=-1MO,2FR", dateText, outText}},
	} {
		m := full()
		c.f(&m)
		b, e := Print(m)
		if string(b) != lines(c.want...) || e != api.OK {
			t.Errorf("case %d: Print(%+v) = %q, %d", i, m, b, e)
		}
		holdParse(t, lines(c.want...), m, 0, api.OK)
	}
}

// longest is a meeting that no other one has a longer text than.
func longest() api.Meeting {
	var numbered []api.Day
	for i := range 60 {
		numbered = append(numbered, api.Day{N: -53 + i/7, W: i % 7})
	}
	days := append(upto(-31, 1, 31), upto(3, 1, 29)...)
	return api.Meeting{Zone: 15, Start: 1767603600, Dur: 31*86400 - 1, Recurs: true, Rule: api.Rule{
		Freq: 1, Interval: 1000, Wkst: 6, Ends: true, Until: 1 << 31, Month: upto(1, 1, 12), YearDay: upto(-366, 1, 60), MonthDay: days, Day: numbered,
		Hour: []int{23}, Minute: upto(44, 1, 16), Second: upto(0, 1, 60), Pos: upto(-366, 1, 60),
	}, Dates: upto(0, 86399, 64), Except: upto(1, 1, 64)}
}

// No line has more than 75 bytes, and even the longest text is not too long.
func TestP9_1PrintLong(t *testing.T) {
	b, e := Print(longest())
	if e != api.OK || len(b) != 3794 {
		t.Fatalf("%d bytes, %d", len(b), e)
	}
	for l := range bytes.SplitSeq(b, []byte("\r\n")) {
		if len(l) > 75 {
			t.Errorf("a line of %d bytes", len(l))
		}
	}
	holdParse(t, string(b), longest(), 0, api.OK)
	m := plain()
	m.Dates = upto(0, 1, 5)
	b, e = Print(m)
	want := lines("DTSTART;TZID=0:20260105T090000", durText, "RDATE:19700101T000000,19700101T000001,19700101T000002,19700101T000003,19700", " 101T000004")
	if string(b) != want || e != api.OK {
		t.Errorf("folded: %q, %d", b, e)
	}
}

// words is all orders in which the lines of a meeting may stand: s the start,
// d the duration, r the rule, x the dates, e those left out.
func words() []string {
	var all []string
	for i := range 8 {
		w := "sd"
		for k, c := range "rxe" {
			if i>>k&1 == 1 {
				w += string(c)
			}
		}
		all = append(all, w)
	}
	return all
}

// sound is how many of the lines stand where they may.
func sound(kinds string) int {
	n := 0
	for n < len(kinds) && slices.ContainsFunc(words(), func(w string) bool { return strings.HasPrefix(w, kinds[:n+1]) }) {
		n++
	}
	return n
}

// Lines of all kinds, and some that are none, in each order.
func TestP9_1ParseOrder(t *testing.T) {
	texts := map[byte]string{'s': startText, 'd': durText, 'r': ruleText, 'x': dateText, 'e': outText, 'n': "", '?': "X:1"}
	eachText("sdrxen?", 6, func(kinds string) {
		var l []string
		want := api.Meeting{}
		for i := range len(kinds) {
			l = append(l, texts[kinds[i]])
			switch kinds[i] {
			case 's':
				want.Zone, want.Start = full().Zone, full().Start
			case 'd':
				want.Dur = full().Dur
			case 'r':
				want.Recurs, want.Rule = true, full().Rule
			case 'x':
				want.Dates = full().Dates
			case 'e':
				want.Except = full().Except
			}
		}
		text := ""
		if len(l) > 0 {
			text = lines(l...)
		}
		n := sound(kinds)
		switch {
		case n < len(kinds):
			holdParse(t, text, api.Meeting{}, n, api.ErrForm)
		case n < 2:
			holdParse(t, text, api.Meeting{}, n, api.ErrShort)
		default:
			holdParse(t, text, want, 0, api.OK)
		}
	})
	eachText("sdrxe", 7, func(kinds string) {
		if len(kinds) < 7 || sound(kinds) == 7 {
			return
		}
		var l []string
		for i := range len(kinds) {
			l = append(l, texts[kinds[i]])
		}
		holdParse(t, lines(l...), api.Meeting{}, sound(kinds), api.ErrForm)
	})
}

// A line begins just so, and nothing stands ahead of it.
func TestP9_1ParseHeads(t *testing.T) {
	all := []string{startText, durText, ruleText, dateText, outText}
	heads := []string{"DTSTART;TZID=", "DURATION:", "RRULE:", "RDATE:", "EXDATE:"}
	for i, line := range all {
		value := strings.TrimPrefix(line, heads[i])
		for _, head := range []string{
			"", strings.ToLower(heads[i]), heads[i][1:], heads[i][:len(heads[i])-1], "\x20" + heads[i], "X" + heads[i], heads[i] + " ", heads[i] + heads[i], heads[i] + ":", heads[i] + ";", strings.Replace(heads[i], ":", ";:", 1) + "X",
			strings.Replace(heads[i], ":", ";X=1:", 1) + " ", strings.Replace(heads[i], ":", " :", 1) + " ", "DTSTART:", "DTSTART;TZID:", "DTSTART;TZID=1;TZID=", "DTSTART;tzid=", "DTSTART;X=1;TZID=", "DTSTART;;TZID=", "DTEND;TZID=", "DTSTART; TZID=", "RDATE;TZID=1:", "EXDATE;TZID=1:", "RRULE;X:", "EXRULE:", "DURATION;X=1:", "DURATION;:", "RRULE;:", "RDATE;:", "EXDATE;:",
		} {
			l := slices.Clone(all)
			l[i] = head + value
			place := i
			if strings.HasPrefix(head, " ") {
				// It goes on the line ahead, that is then none.
				place = max(0, i-1)
			}
			holdParse(t, lines(l...), api.Meeting{}, place, api.ErrForm)
		}
	}
}

var oneNumber = regexp.MustCompile(`^(0|-?[1-9][0-9]{0,8})$`)

func TestP9_1ParseZone(t *testing.T) {
	hold := func(s string) {
		text := lines("DTSTART;TZID="+s+":20260105T090000", durText)
		n, _ := strconv.Atoi(s)
		switch {
		case !oneNumber.MatchString(s):
			holdParse(t, text, api.Meeting{}, 0, api.ErrForm)
		case n < 0 || n > 15:
			holdParse(t, text, api.Meeting{}, 0, api.ErrRange)
		default:
			want := plain()
			want.Zone = n
			holdParse(t, text, want, 0, api.OK)
		}
	}
	eachText("-+0156 ;:", 5, hold)
	for n := -20; n < 200; n++ {
		hold(strconv.Itoa(n))
	}
	for _, s := range []string{"99999999", "999999999", "-99999999", "-999999999", "123456789", "1000000000", "-1000000000", "9999999999", "0000000001", "000000001", "1e1", "0x1", "1_0", "1.0", "+1", " 1", "1 ", "-", "--1", "9223372036854775807", "9223372036854775808", "18446744073709551617", "4294967297", "99999999999999999999999999", "I", "\"1\"", "1,2"} {
		hold(s)
	}
}

// Values that are none, of each line.
func TestP9_1ParseValues(t *testing.T) {
	all := []string{startText, durText, ruleText, dateText, outText}
	heads := []string{"DTSTART;TZID=1:", "DURATION:", "RRULE:", "RDATE:", "EXDATE:"}
	moments := []string{"", "2026", "20260105", "20260105T09000", "20260105T0900000", "20260105T090000Z", "20260105t090000", "20260105 090000", "2026-01-05T09:00:00", "20260230T090000", "20260105T240000", "20260105T096000", "20260105T090060", "00000105T090000", "20261305T090000", "20260100T090000", "2026010 T090000", "-2026105T090000", "0", "20260105T090000 ", " 20260105T090000", "20260105T090000;"}
	for i, bad := range [][]string{
		append(moments, "20260105T090000,20260106T090000", ":20260105T090000", "20260105T090000:"),
		{"", "P", "PT", "1H", "T1H", "PT60M", "PT3600S", "P7D", "P0W", "P0D", "PT0S", "P1W1D", "PT1H ", " PT1H", "-PT1H", "+PT1H", "pt1h", "PT01H", "PT1M1H", "P1DT", "P25000W", "PT1H,PT1H", "PT1H:", ":PT1H", "P9999999999999999999W"},
		{"", "FREQ", "FREQ=", "FREQ=DAYLY", "COUNT=1", "FREQ=DAILY;", ";FREQ=DAILY", "FREQ=DAILY;X=1", "FREQ=DAILY;FREQ=DAILY", "FREQ=DAILY;COUNT=1;UNTIL=20260105T090000", "FREQ=DAILY;COUNT=4097", "FREQ=WEEKLY;BYWEEKNO=1", "FREQ=DAILY;INTERVAL=0", "FREQ=DAILY;INTERVAL=01", "FREQ=DAILY;BYHOUR=24", "FREQ=DAILY;UNTIL=20260230T000000", "FREQ=DAILY:", ":FREQ=DAILY", "freq=daily", "FREQ=DAILY "},
		append(moments, ",", "20260105T090000,", ",20260105T090000", "20260105T090000,,20260106T090000", "20260105T090000;20260106T090000", "20260105T090000, 20260106T090000", "20260105T090000,20260105T090000", "20260106T090000,20260105T090000", "20260105T090000,20260107T090000,20260106T090000", "20260105T090000,20260106T090000,20260106T090000", "20260105T090000,20260230T090000", "20260105T090000,2026"),
		append(moments, ",", "20260105T090000,", ",20260105T090000", "20260105T090000,20260105T090000", "20260106T090000,20260105T090000", "20260105T090000,20260106T090001,20260106T090000", "00020101T000000,00010101T000000"),
	} {
		for _, value := range bad {
			l := slices.Clone(all)
			l[i] = heads[i] + value
			holdParse(t, lines(l...), api.Meeting{}, i, api.ErrForm)
			// Of several wrong lines the first is told, whatever lacks behind it.
			holdParse(t, lines(append(l[:i+1:i+1], "X", "\n")...), api.Meeting{}, i, api.ErrForm)
			if i > 0 {
				l[i-1] = "X"
				holdParse(t, lines(l...), api.Meeting{}, i-1, api.ErrForm)
			}
		}
	}
}

// Lists of up to 64 moments, that rise, may be read.
func TestP9_1ParseLists(t *testing.T) {
	for n := 1; n <= 70; n++ {
		list := upto(1767603600, 86399, n)
		var texts []string
		for _, u := range list {
			s, _ := stamp.Text(u)
			texts = append(texts, s)
		}
		for _, head := range []string{"RDATE:", "EXDATE:"} {
			want := plain()
			if head == "RDATE:" {
				want.Dates = list
			} else {
				want.Except = list
			}
			s := lines("DTSTART;TZID=0:20260105T090000", durText, head+strings.Join(texts, ","))
			if n <= 64 {
				holdParse(t, s, want, 0, api.OK)
			} else {
				holdParse(t, s, api.Meeting{}, 2, api.ErrForm)
			}
			// None twice, wherever.
			for _, k := range []int{0, n / 2, n - 1} {
				twice := slices.Insert(slices.Clone(texts), k, texts[k])
				holdParse(t, lines("DTSTART;TZID=0:20260105T090000", durText, head+strings.Join(twice, ",")), api.Meeting{}, 2, api.ErrForm)
			}
		}
	}
}

// fold.Split's errors, and places, go ahead of all.
func TestP9_1ParseSplit(t *testing.T) {
	good := lines(startText, durText)
	for _, c := range []struct {
		text  string
		place int
		e     api.Errno
	}{
		{" A", 0, api.ErrForm}, {" " + good, 0, api.ErrForm}, {good + "\x01", len(good), api.ErrForm}, {"\x7f" + good, 0, api.ErrForm}, {"X\r", 1, api.ErrForm}, {"X:1\r\nY\r\n\tZ", 8, api.ErrForm}, {lines(startText) + "\xc3\xa9", 32, api.ErrForm}, {startText + "\r" + durText, len(startText), api.ErrForm},
		{strings.Repeat("A", 4096), 0, api.ErrForm}, {strings.Repeat("A", 4097), 0, api.ErrLong}, {strings.Repeat("\x01", 4097), 0, api.ErrLong}, {strings.Repeat("\x01", 4096), 0, api.ErrForm}, {good + strings.Repeat("\n", 4097-len(good)), 0, api.ErrLong}, {good + strings.Repeat("\n", 4096-len(good)), 2, api.ErrForm}, {strings.Repeat("A", 1<<20), 0, api.ErrLong},
	} {
		holdParse(t, c.text, api.Meeting{}, c.place, c.e)
	}
	// As long as may be: empty ends are folded into nothing.
	long := startText + strings.Repeat("\n ", (4096-len(good))/2) + "\r\n" + durText + "\r\n"
	want := plain()
	want.Zone = 1
	holdParse(t, long, want, 0, api.OK)
	holdParse(t, long+"\n\n", api.Meeting{}, 0, api.ErrLong)
}

// Lines may be folded anywhere, and end with 10 alone, or not at all.
func TestP9_1ParseFolded(t *testing.T) {
	whole := lines(startText, durText, ruleText, dateText, outText)
	holdParse(t, strings.ReplaceAll(whole, "\r", ""), full(), 0, api.OK)
	holdParse(t, strings.TrimSuffix(whole, "\r\n"), full(), 0, api.OK)
	for i := 1; i < len(whole); i++ {
		s := whole[:i] + "\r\n " + whole[i:]
		if whole[i-1] == '\r' {
			// No 10 follows this one.
			holdParse(t, s, api.Meeting{}, i-1, api.ErrForm)
		} else {
			// (Ahead of a line, an empty one goes on with it.)
			holdParse(t, s, full(), 0, api.OK)
		}
	}
}

func TestP9_1ParseShort(t *testing.T) {
	for _, s := range []string{"", startText, lines(startText), lines(startText[:20], " "+startText[20:]), "DTSTART;TZID=99:00010101T000000", "DTSTART;TZID=-1:20260105T090000\n"} {
		n := 0
		if s != "" {
			n = 1
		}
		holdParse(t, s, api.Meeting{}, n, api.ErrShort)
	}
	holdParse(t, lines(durText), api.Meeting{}, 0, api.ErrForm)
	holdParse(t, "\n", api.Meeting{}, 0, api.ErrForm)
	holdParse(t, lines(startText, ""), api.Meeting{}, 1, api.ErrForm)
}

// What can be read, but may not be; each line's own faults go ahead.
func TestP9_1ParseRange(t *testing.T) {
	for _, l := range [][]string{
		{"DTSTART;TZID=16:20260105T090000", durText}, {"DTSTART;TZID=-1:20260105T090000", durText}, {"DTSTART;TZID=0:00011231T235959", durText}, {"DTSTART;TZID=0:99990101T000000", durText},
		{startText, "DURATION:P31DT1S"}, {startText, "DURATION:P5W"}, {startText, "DURATION:P24855DT3H14M8S"},
		{startText, durText, "RDATE:00011231T235959"}, {startText, durText, "RDATE:20260105T090000,99990101T000000"}, {startText, durText, "EXDATE:00011231T235959,20260105T090000"}, {startText, durText, ruleText, dateText, "EXDATE:99991231T235959"},
	} {
		holdParse(t, lines(l...), api.Meeting{}, 0, api.ErrRange)
		l = append(l, "X:1")
		holdParse(t, lines(l...), api.Meeting{}, len(l)-1, api.ErrForm)
	}
	for _, l := range [][]string{{"DTSTART;TZID=0:00020101T000000", durText}, {"DTSTART;TZID=15:99981231T235959", "DURATION:P31D"}, {startText, "DURATION:PT1S", "RDATE:00020101T000000,99981231T235959", "EXDATE:00020101T000000,99981231T235959"}} {
		if m := read(t, l...); !May(m) {
			t.Errorf("%q: %+v", l, m)
		}
	}
}

var patterns = map[byte]*regexp.Regexp{
	's': regexp.MustCompile(`^DTSTART;TZID=(0|-?[1-9][0-9]{0,8}):([0-9]{8}T[0-9]{6})$`),
	'd': regexp.MustCompile(`^DURATION:(.+)$`),
	'r': regexp.MustCompile(`^RRULE:(.+)$`),
	'x': regexp.MustCompile(`^RDATE:([0-9]{8}T[0-9]{6}(?:,[0-9]{8}T[0-9]{6}){0,63})$`),
	'e': regexp.MustCompile(`^EXDATE:([0-9]{8}T[0-9]{6}(?:,[0-9]{8}T[0-9]{6}){0,63})$`),
}

// model is what Parse answers, worked out by patterns.
func model(b []byte) (api.Meeting, int, api.Errno) {
	split, place, e := fold.Split(b)
	if e != api.OK {
		return api.Meeting{}, place, e
	}
	kinds := ""
	var m api.Meeting
	for i, line := range split {
		kind, good := byte('?'), false
		for k, p := range patterns {
			if f := p.FindStringSubmatch(line); f != nil {
				kind, good = k, fill(&m, k, f[1:])
			}
		}
		kinds += string(kind)
		if !good || sound(kinds) < len(kinds) {
			return api.Meeting{}, i, api.ErrForm
		}
	}
	if len(kinds) < 2 {
		return api.Meeting{}, len(kinds), api.ErrShort
	}
	if !May(m) {
		return api.Meeting{}, 0, api.ErrRange
	}
	return m, 0, api.OK
}

// fill puts what a pattern found into the meeting.
func fill(m *api.Meeting, kind byte, found []string) bool {
	e := api.OK
	switch kind {
	case 's':
		m.Zone, _ = strconv.Atoi(found[0])
		m.Start, e = stamp.Parse(found[1])
	case 'd':
		m.Dur, e = stamp.DurParse(found[0])
	case 'r':
		m.Recurs = true
		m.Rule, _, e = rule.Parse(found[0])
	default:
		var all []int
		for s := range strings.SplitSeq(found[0], ",") {
			n, f := stamp.Parse(s)
			if f != api.OK {
				return false
			}
			all = append(all, n)
		}
		if !slices.IsSorted(all) || len(slices.Compact(slices.Clone(all))) < len(all) {
			return false
		}
		if kind == 'x' {
			m.Dates = all
		} else {
			m.Except = all
		}
	}
	return e == api.OK
}

func holdModel(t *testing.T, b []byte) bool {
	t.Helper()
	m, place, e := model(b)
	holdParse(t, string(b), m, place, e)
	return e == api.OK
}

// Each byte of a text changed, left out, doubled.
func TestP9_1ParseOneByteOff(t *testing.T) {
	t.Parallel()
	whole := []byte(lines(startText, durText, ruleText, "RDATE:20260106T090000,20260107T100000", outText))
	good := 0
	for i := range whole {
		for _, c := range []byte("\x00\n\r \"+,-0123456789:;=ABCDEFGHIJKLMNOPQRSTUVWXYZ_adtz~\x7f\xff") {
			b := slices.Clone(whole)
			b[i] = c
			if holdModel(t, b) {
				good++
			}
			holdModel(t, slices.Insert(slices.Clone(whole), i, c))
		}
		holdModel(t, slices.Delete(slices.Clone(whole), i, i+1))
		holdModel(t, whole[:i])
		holdModel(t, whole[i:])
	}
	if good < 200 {
		t.Errorf("%d changes that can be read", good)
	}
}

// Pieces of lines put together at random.
func TestP9_1ParseRandom(t *testing.T) {
	t.Parallel()
	rnd := rand.New(rand.NewSource(91))
	pieces := []string{
		startText, durText, ruleText, dateText, outText, "DTSTART;TZID=", "DURATION:", "RRULE:", "RDATE:", "EXDATE:", "0", "15", "16", "-1", ":", ":20260105T090000", "20260106T090000", "20260107T090000", "00010101T000000", ",", ";", "P31D", "PT1H", "P32D", "FREQ=DAILY", ";COUNT=3",
	}
	next := []string{"\r\n", "\n", "\r\n ", "", "", "\r\n\r\n"}
	good := 0
	for range 60000 {
		var b []byte
		if rnd.Intn(2) == 0 {
			b = append(b, lines(startText, durText)...)
		}
		for range rnd.Intn(8) {
			b = append(b, pieces[rnd.Intn(len(pieces))]...)
			b = append(b, next[rnd.Intn(len(next))]...)
		}
		if holdModel(t, b) {
			good++
		}
	}
	if good < 1000 {
		t.Errorf("%d texts that can be read", good)
	}
}

// random is a meeting of random numbers, that may be.
func random(rnd *rand.Rand) api.Meeting {
	m := api.Meeting{Zone: rnd.Intn(16), Start: firstMoment + rnd.Intn(lastMoment-firstMoment+1), Dur: 1 + rnd.Intn(31*86400)}
	if rnd.Intn(2) == 0 {
		m.Start, m.Dur = rnd.Intn(1<<32), 60*(1+rnd.Intn(600))
	}
	if rnd.Intn(4) > 0 {
		m.Recurs, m.Rule = true, randomRule(rnd)
	}
	m.Dates, m.Except = randomDates(rnd, m.Start), randomDates(rnd, m.Start)
	return m
}

// randomDates is some moments that rise, many of them days off the start.
func randomDates(rnd *rand.Rand, start int) []int {
	set := map[int]int{}
	for range rnd.Intn(3) * rnd.Intn(33) {
		n := start + 86400*(rnd.Intn(60)-20)
		switch rnd.Intn(3) {
		case 0:
			n = firstMoment + rnd.Intn(lastMoment-firstMoment+1)
		case 1:
			n += rnd.Intn(48) * 3600
		}
		if n >= firstMoment && n <= lastMoment {
			set[n] = 0
		}
	}
	return slices.Sorted(maps.Keys(set))
}

// randomRule is a rule that may be.
func randomRule(rnd *rand.Rand) api.Rule {
	some := func(one, lo, hi int) []int {
		var all []int
		for n := lo; n <= hi && rnd.Intn(3) == 0 && len(all) < 60; n++ {
			if n != 0 || lo == 0 {
				all = append(all, n)
			}
			n += rnd.Intn(one)
		}
		return all
	}
	for {
		r := api.Rule{
			Freq: 1 + rnd.Intn(7), Interval: 1 + rnd.Intn(3)*rnd.Intn(400), Wkst: rnd.Intn(7), Month: some(4, 1, 12), Week: some(30, -53, 53), YearDay: some(200, -366, 366), MonthDay: some(20, -31, 31),
			Hour: some(12, 0, 23), Minute: some(30, 0, 59), Second: some(30, 0, 59), Pos: some(300, -366, 366),
		}
		for w := range 7 {
			if rnd.Intn(6) == 0 {
				r.Day = append(r.Day, api.Day{N: rnd.Intn(2), W: w})
			}
		}
		switch rnd.Intn(3) {
		case 0:
			r.Count = 1 + rnd.Intn(200)
		case 1:
			r.Ends, r.Until = true, rnd.Intn(1<<33)
		}
		if rule.May(r) {
			return r
		}
	}
}

// occurs is what Local tells, worked out by sets.
func occurs(m api.Meeting, end int) ([]int, api.Errno) {
	told := []int{m.Start}
	if m.Recurs {
		all, e := expand.List(m.Rule, m.Start, end, 4096)
		if e != api.OK {
			return nil, e
		}
		told = all
	}
	set := map[int]int{}
	for _, n := range append(told, m.Dates...) {
		if n < end {
			set[n] = 0
		}
	}
	for _, n := range m.Except {
		delete(set, n)
	}
	if len(set) > 4096 {
		return nil, api.ErrMany
	}
	return slices.Sorted(maps.Keys(set)), api.OK
}

func holdLocal(t *testing.T, m api.Meeting, end int, want []int, err api.Errno) {
	t.Helper()
	if got, e := Local(m, end); !slices.Equal(got, want) || e != err {
		t.Fatalf("Local(%+v, %d) = %v, %d, not %v, %d", m, end, got, e, want, err)
	}
}

func TestP9_2Known(t *testing.T) {
	const far = "20270101T000000"
	for i, c := range []struct {
		l         []string
		end, want string
	}{
		{[]string{startText, durText, ruleText, dateText, outText}, far, "20260105T090000 20260106T090000 20260107T100000"},
		{[]string{startText, durText, ruleText, dateText}, far, "20260105T090000 20260106T090000 20260107T100000 20260112T090000"},
		{[]string{startText, durText, ruleText}, far, "20260105T090000 20260112T090000"},
		{[]string{startText, durText}, far, "20260105T090000"},
		{[]string{startText, durText, outText}, far, "20260105T090000"},
		{[]string{startText, durText, "EXDATE:20260105T090000"}, far, ""},
		{[]string{startText, durText, "RDATE:20260105T090000"}, far, "20260105T090000"},
		{[]string{startText, durText, "RDATE:20260105T090000", "EXDATE:20260105T090000"}, far, ""},
		// Dates ahead of the start, and those of the rule again.
		{[]string{startText, durText, "RDATE:20251231T235959,20260105T085959"}, far, "20251231T235959 20260105T085959 20260105T090000"},
		{[]string{startText, durText, ruleText, "RDATE:00020101T000000,20260105T090000,20260112T090000,20260112T090001,99981231T235959"}, far, "00020101T000000 20260105T090000 20260112T090000 20260112T090001"},
		// The start is left out; a rule does not always tell it.
		{[]string{startText, durText, ruleText, "EXDATE:20260105T090000"}, far, "20260112T090000"},
		{[]string{startText, durText, "RRULE:FREQ=WEEKLY;BYDAY=TU;COUNT=2"}, far, "20260106T090000 20260113T090000"},
		// What is left out counts in the rule's Count.
		{[]string{startText, durText, "RRULE:FREQ=DAILY;COUNT=4", "EXDATE:20260106T090000,20260107T090000"}, far, "20260105T090000 20260108T090000"},
		{[]string{startText, durText, "RRULE:FREQ=DAILY;COUNT=4", "EXDATE:20260106T085959,20260106T090001,20260109T090000"}, far, "20260105T090000 20260106T090000 20260107T090000 20260108T090000"},
		// To the end.
		{[]string{startText, durText, ruleText, dateText}, "20260107T100001", "20260105T090000 20260106T090000 20260107T100000"},
		{[]string{startText, durText, ruleText, dateText}, "20260107T100000", "20260105T090000 20260106T090000"},
		{[]string{startText, durText, ruleText, dateText}, "20260105T090000", ""},
		{[]string{startText, durText, ruleText, dateText}, "20260105T090001", "20260105T090000"},
		{[]string{startText, durText, "RRULE:FREQ=DAILY"}, "20260108T090000", "20260105T090000 20260106T090000 20260107T090000"},
		{[]string{startText, durText, "RRULE:FREQ=DAILY;UNTIL=20260107T090000"}, far, "20260105T090000 20260106T090000 20260107T090000"},
		{[]string{startText, durText, "RRULE:FREQ=DAILY", "RDATE:20251231T000000,20260101T000000"}, "20260101T000000", "20251231T000000"},
	} {
		m := read(t, c.l...)
		if got, e := Local(m, at(t, c.end)); !slices.Equal(got, atAll(t, c.want)) || e != api.OK {
			t.Errorf("case %d: %q to %s: %v, %d, not %s", i, c.l, c.end, got, e, c.want)
		}
	}
}

// What does not recur has any end; what recurs those of expand.List.
func TestP9_2Ends(t *testing.T) {
	m := plain()
	m.Dates = []int{firstMoment, m.Start + 1, lastMoment}
	all := []int{firstMoment, m.Start, m.Start + 1, lastMoment}
	for _, c := range []struct{ end, n int }{
		{math.MinInt, 0}, {math.MinInt + 1, 0}, {firstMoment - 1, 0}, {firstMoment, 0}, {firstMoment + 1, 1}, {0, 1}, {m.Start, 1}, {m.Start + 1, 2}, {m.Start + 2, 3}, {lastMoment, 3}, {lastMoment + 1, 4}, {lastMoment + 1<<40, 4}, {math.MaxInt - 1, 4}, {math.MaxInt, 4},
	} {
		holdLocal(t, m, c.end, all[:c.n], api.OK)
	}
	r := recurring(t, "20260105T090000", "FREQ=YEARLY")
	r.Dates = []int{firstMoment, r.Start + 1, r.Start + 3660*86400, lastMoment}
	for _, c := range []struct {
		end, n int
		e      api.Errno
	}{
		{math.MinInt, 0, api.ErrRange}, {-719162*86400 - 1, 0, api.ErrRange}, {-719162 * 86400, 0, api.OK}, {firstMoment, 0, api.OK}, {firstMoment + 1, 1, api.OK}, {r.Start, 1, api.OK}, {r.Start + 1, 2, api.OK}, {r.Start + 3660*86400 - 1, 13, api.OK}, {r.Start + 3660*86400, 13, api.OK}, {r.Start + 3660*86400 + 1, 0, api.ErrRange}, {2932897 * 86400, 0, api.ErrRange}, {math.MaxInt, 0, api.ErrRange},
	} {
		got, e := Local(r, c.end)
		if len(got) != c.n || e != c.e {
			t.Errorf("to %d: %d moments, %d", c.end, len(got), e)
		}
	}
	// The last moments there are: an end behind them is none of a rule.
	r = recurring(t, "99981230T235959", "FREQ=DAILY")
	holdLocal(t, r, 2932897*86400-1, upto(r.Start, 86400, 366), api.OK)
	holdLocal(t, r, 2932897*86400, nil, api.ErrRange)
}

func TestP9_2Many(t *testing.T) {
	m := recurring(t, "20260105T090000", "FREQ=SECONDLY;COUNT=4096")
	end := m.Start + 86400
	all := upto(m.Start, 1, 4096)
	holdLocal(t, m, end, all, api.OK)
	m.Dates = []int{m.Start, m.Start + 4095}
	holdLocal(t, m, end, all, api.OK)
	// One more, ahead, behind, behind the end.
	m.Dates = []int{m.Start + 4096}
	holdLocal(t, m, end, nil, api.ErrMany)
	holdLocal(t, m, m.Start+4096, all, api.OK)
	holdLocal(t, m, m.Start+4097, nil, api.ErrMany)
	m.Dates = []int{m.Start - 1}
	holdLocal(t, m, end, nil, api.ErrMany)
	holdLocal(t, m, m.Start+4095, upto(m.Start-1, 1, 4096), api.OK)
	m.Dates = []int{end}
	holdLocal(t, m, end, all, api.OK)
	holdLocal(t, m, end+1, nil, api.ErrMany)
	// What is left out does not count.
	m.Dates, m.Except = []int{m.Start + 4096}, []int{m.Start + 7}
	holdLocal(t, m, end, append(upto(m.Start, 1, 7), upto(m.Start+8, 1, 4089)...), api.OK)
	m.Dates, m.Except = upto(m.Start+5000, 1, 64), upto(m.Start, 1, 64)
	holdLocal(t, m, end, append(upto(m.Start+64, 1, 4032), m.Dates...), api.OK)
	m.Except = append(upto(m.Start, 1, 63), m.Start+9999)
	holdLocal(t, m, end, nil, api.ErrMany)
	m.Except = append(upto(m.Start, 1, 63), m.Start+5063)
	holdLocal(t, m, end, append(upto(m.Start+63, 1, 4033), upto(m.Start+5000, 1, 63)...), api.OK)
	m.Except = nil
	holdLocal(t, m, end, nil, api.ErrMany)
	// The rule's own are not too few for what is left out of them.
	m = recurring(t, "20260105T090000", "FREQ=SECONDLY")
	holdLocal(t, m, m.Start+4096, all, api.OK)
	m.Except = upto(m.Start, 1, 64)
	holdLocal(t, m, m.Start+4096, all[64:], api.OK)
	holdLocal(t, m, m.Start+4097, nil, api.ErrMany)
	m.Dur = 0
	holdLocal(t, m, m.Start+4097, nil, api.ErrRange)
}

func TestP9_2Random(t *testing.T) {
	t.Parallel()
	rnd := rand.New(rand.NewSource(92))
	good, many := 0, 0
	for range 2000 {
		m := random(rnd)
		if rnd.Intn(2) == 0 {
			// Those left out, and those of the rule, are often the same.
			if all, e := expand.List(m.Rule, m.Start, m.Start+40*86400, 64); e == api.OK {
				m.Except = all[len(all)/3:]
				m.Dates = all[:len(all)*2/3]
			}
		}
		for _, end := range []int{m.Start + rnd.Intn(3660*86400), m.Start + rnd.Intn(30*86400), m.Start + 1, rnd.Intn(1 << 33)} {
			want, e := occurs(m, end)
			holdLocal(t, m, end, want, e)
			if e == api.OK && len(want) > 5 {
				good++
			}
			if e == api.ErrMany {
				many++
			}
		}
	}
	if good < 1500 || many < 40 {
		t.Errorf("%d of some length, %d of too great a one", good, many)
	}
}

// spansOf puts together, two by two, all spans that overlap or touch.
func spansOf(m api.Meeting, z api.Zone, hi int) ([]api.Span, api.Errno) {
	local, e := occurs(m, hi+172800)
	if e != api.OK {
		return nil, e
	}
	var all []api.Span
	for _, l := range local {
		u := zone.UTC(z, l)
		if u >= hi {
			continue
		}
		s := api.Span{Lo: u, Hi: u + m.Dur}
		for i := 0; i < len(all); {
			if o := all[i]; o.Lo <= s.Hi && s.Lo <= o.Hi {
				s = api.Span{Lo: min(o.Lo, s.Lo), Hi: max(o.Hi, s.Hi)}
				all = slices.Delete(all, i, i+1)
				i = 0
			} else {
				i++
			}
		}
		all = append(all, s)
	}
	slices.SortFunc(all, func(a, b api.Span) int { return a.Lo - b.Lo })
	return all, api.OK
}

func holdSpans(t *testing.T, m api.Meeting, zones []api.Zone, hi int, want []api.Span, err api.Errno) {
	t.Helper()
	if got, e := Spans(m, zones, hi); !slices.Equal(got, want) || e != err {
		t.Fatalf("Spans(%+v, %+v, %d) = %v, %d, not %v, %d", m, zones, hi, got, e, want, err)
	}
}

// spans reads spans, two moments each.
func spans(t *testing.T, s string) []api.Span {
	t.Helper()
	var all []api.Span
	for _, pair := range strings.Fields(s) {
		lo, hi, _ := strings.Cut(pair, "-")
		all = append(all, api.Span{Lo: at(t, lo), Hi: at(t, hi)})
	}
	return all
}

func TestP9_3Known(t *testing.T) {
	const far = "20270101T000000"
	for _, c := range []struct {
		start, dur, rest, hi, want string
	}{
		// The chapter's example.
		{"20260105T090000", "PT1H", "RRULE:FREQ=WEEKLY;COUNT=2", far, "20260105T080000-20260105T090000 20260112T080000-20260112T090000"},
		{"20260705T090000", "PT1H", "", far, "20260705T070000-20260705T080000"},
		// In the gap, 02:30 is 01:30; it overlaps what is at 03:00, an earlier moment.
		{"20260329T023000", "PT1H", "", far, "20260329T013000-20260329T023000"},
		{"20260329T023000", "PT30M", "RDATE:20260329T030000", far, "20260329T010000-20260329T020000"},
		{"20260329T023000", "PT29M", "RDATE:20260329T030000", far, "20260329T010000-20260329T012900 20260329T013000-20260329T015900"},
		{"20260329T023000", "PT29M59S", "RDATE:20260329T030000,20260329T040000", far, "20260329T010000-20260329T012959 20260329T013000-20260329T015959 20260329T020000-20260329T022959"},
		// Twice the same moment, from within the gap and from behind it.
		{"20260329T023000", "PT20M", "RDATE:20260329T033000", far, "20260329T013000-20260329T015000"},
		{"20260329T013000", "PT30M", "RRULE:FREQ=HOURLY;COUNT=4", far, "20260329T003000-20260329T010000 20260329T013000-20260329T020000 20260329T023000-20260329T030000"},
		// Where the hour comes twice the first one is taken.
		{"20261025T023000", "PT1H", "", far, "20261025T003000-20261025T013000"},
		{"20261025T013000", "PT30M", "RRULE:FREQ=HOURLY;COUNT=3", far, "20261024T233000-20261025T000000 20261025T003000-20261025T010000 20261025T023000-20261025T030000"},
		{"20261025T023000", "PT2H", "RDATE:20261025T033000", far, "20261025T003000-20261025T043000"},
		// What touches is one, what is a second apart is not.
		{"20260105T090000", "PT1H", "RDATE:20260105T100000", far, "20260105T080000-20260105T100000"},
		{"20260105T090000", "PT1H", "RDATE:20260105T100001", far, "20260105T080000-20260105T090000 20260105T090001-20260105T100001"},
		{"20260105T090000", "PT1H", "RDATE:20260105T095959", far, "20260105T080000-20260105T095959"},
		{"20260105T090000", "P2D", "RRULE:FREQ=DAILY;COUNT=3", far, "20260105T080000-20260109T080000"},
		{"20260105T090000", "PT1S", "RRULE:FREQ=SECONDLY;COUNT=100", far, "20260105T080000-20260105T080140"},
		{"20260105T090000", "P31D", "RDATE:20251220T090000,20260109T090000,20260209T090000", far, "20251220T080000-20260312T080000"},
		// To hi: what begins below it is told whole.
		{"20260105T090000", "PT1H", "RRULE:FREQ=DAILY", "20260107T080000", "20260105T080000-20260105T090000 20260106T080000-20260106T090000"},
		{"20260105T090000", "PT1H", "RRULE:FREQ=DAILY", "20260107T080001", "20260105T080000-20260105T090000 20260106T080000-20260106T090000 20260107T080000-20260107T090000"},
		{"20260105T090000", "PT1H", "", "20260105T080000", ""},
		{"20260105T090000", "PT1H", "", "20260105T080001", "20260105T080000-20260105T090000"},
		{"20260105T090000", "PT1H", "", "20251231T000000", ""},
		{"20260105T090000", "PT1H", "RDATE:20260105T100000,20260105T110000", "20260105T100000", "20260105T080000-20260105T100000"},
		{"20260105T090000", "PT1H", "EXDATE:20260105T090000", far, ""},
		{"20260329T023000", "PT1H", "RDATE:20260329T030000", "20260329T013000", "20260329T010000-20260329T020000"},
		{"20260329T023000", "PT1H", "RDATE:20260329T030000", "20260329T010000", ""},
	} {
		l := []string{"DTSTART;TZID=0:" + c.start, "DURATION:" + c.dur}
		if c.rest != "" {
			l = append(l, c.rest)
		}
		m := read(t, l...)
		if got, e := Spans(m, []api.Zone{middle()}, at(t, c.hi)); !slices.Equal(got, spans(t, c.want)) || e != api.OK {
			t.Errorf("%q to %s: %v, %d, not %v", l, c.hi, got, e, spans(t, c.want))
		}
	}
}

// The greatest offsets there are: a local time is 18 hours ahead, or behind.
func TestP9_3Offsets(t *testing.T) {
	m := recurring(t, "20260105T090000", "FREQ=HOURLY")
	m.Dur = 60
	for _, base := range []int{-64800, -3600, -1, 0, 1, 3600, 64800} {
		for _, n := range []int{0, 1, 2, 100} {
			var want []api.Span
			for i := range n {
				lo := m.Start - base + i*hour
				want = append(want, api.Span{Lo: lo, Hi: lo + 60})
			}
			hi := m.Start - base + (n-1)*hour
			holdSpans(t, m, []api.Zone{{Base: base}}, hi+1, want, api.OK)
			holdSpans(t, m, []api.Zone{{Base: base}}, hi+hour, want, api.OK)
			if n > 0 {
				holdSpans(t, m, []api.Zone{{Base: base}}, hi, want[:n-1], api.OK)
			}
		}
	}
	// A gap of 36 hours: what is in it is told later than what is behind it.
	z := api.Zone{Base: -64800, Shifts: []api.Shift{{At: at(t, "20260105T180000"), Off: 64800}}}
	m = plain()
	m.Start, m.Dur = at(t, "20260105T000000"), 60
	m.Dates = atAll(t, "20260106T115959 20260106T120000 20260106T120100 20260107T120000")
	// 00:00 is 18:00, 11:59:59 of the next day 05:59:59 of the one behind that.
	want := spans(t, "20260105T180000-20260105T180200 20260106T180000-20260106T180100 20260107T055959-20260107T060059")
	holdSpans(t, m, []api.Zone{z}, at(t, "20260108T000000"), want, api.OK)
	holdSpans(t, m, []api.Zone{z}, at(t, "20260107T055959"), want[:2], api.OK)
	holdSpans(t, m, []api.Zone{z}, at(t, "20260106T180000"), want[:1], api.OK)
}

// Two days above hi: what is there is not told, but counts.
func TestP9_3Margin(t *testing.T) {
	zones := []api.Zone{{}}
	m := recurring(t, "20260105T090000", "FREQ=SECONDLY;COUNT=4096")
	m.Dur = 1
	hi := m.Start + 100
	want := []api.Span{{Lo: m.Start, Hi: hi}}
	holdSpans(t, m, zones, hi, want, api.OK)
	m.Dates = []int{hi + 172800}
	holdSpans(t, m, zones, hi, want, api.OK)
	m.Dates = []int{hi + 172799}
	holdSpans(t, m, zones, hi, nil, api.ErrMany)
	m.Except = []int{m.Start + 4000}
	holdSpans(t, m, zones, hi, want, api.OK)
	m.Except, m.Dates = nil, nil
	m.Rule.Count = 0
	holdSpans(t, m, zones, m.Start-172800+4096, nil, api.OK)
	holdSpans(t, m, zones, m.Start-172800+4097, nil, api.ErrMany)
	// And the rule's window has its bound.
	m = recurring(t, "20260105T090000", "FREQ=YEARLY")
	all, _ := spansOf(m, zones[0], m.Start+3658*86400)
	if len(all) != 11 {
		t.Fatalf("%d spans", len(all))
	}
	holdSpans(t, m, zones, m.Start+3658*86400, all, api.OK)
	holdSpans(t, m, zones, m.Start+3658*86400+1, nil, api.ErrRange)
	m.Recurs, m.Rule = false, api.Rule{}
	holdSpans(t, m, zones, m.Start+3658*86400+1, all[:1], api.OK)
	holdSpans(t, m, zones, lastEnd, all[:1], api.OK)
}

func TestP9_3Refused(t *testing.T) {
	good, bad := api.Zone{}, api.Zone{Base: 64801}
	m := plain()
	hi := m.Start + 86400
	one := []api.Span{{Lo: m.Start, Hi: m.Start + hour}}
	for i, c := range []struct {
		zone  int
		zones []api.Zone
		e     api.Errno
	}{
		{0, []api.Zone{good}, api.OK}, {1, []api.Zone{good, good}, api.OK}, {15, make([]api.Zone, 16), api.OK}, {15, make([]api.Zone, 99), api.OK},
		{0, nil, api.ErrRange}, {0, []api.Zone{}, api.ErrRange}, {1, []api.Zone{good}, api.ErrRange}, {2, []api.Zone{good, good}, api.ErrRange}, {15, make([]api.Zone, 15), api.ErrRange}, {16, make([]api.Zone, 99), api.ErrRange}, {-1, make([]api.Zone, 16), api.ErrRange}, {math.MaxInt, make([]api.Zone, 16), api.ErrRange}, {math.MinInt, make([]api.Zone, 16), api.ErrRange},
		// That zone alone is looked at.
		{0, []api.Zone{bad}, api.ErrRange}, {0, []api.Zone{bad, good}, api.ErrRange}, {1, []api.Zone{bad, good}, api.OK}, {0, []api.Zone{good, bad}, api.OK}, {1, []api.Zone{good, bad}, api.ErrRange},
		{0, []api.Zone{{From: 1}}, api.ErrRange}, {0, []api.Zone{{Years: middle().Years}}, api.ErrRange}, {0, []api.Zone{{Shifts: []api.Shift{{At: 1, Off: 99999}}}}, api.ErrRange},
		// What lies behind its length is none of it.
		{1, []api.Zone{good, good}[:1], api.ErrRange}, {0, []api.Zone{good, good}[:0], api.ErrRange},
	} {
		m := m
		m.Zone = c.zone
		want := one
		if c.e != api.OK {
			want = nil
		}
		if got, e := Spans(m, c.zones, hi); !slices.Equal(got, want) || e != c.e {
			t.Errorf("case %d: %v, %d", i, got, e)
		}
	}
	early, late := plain(), plain()
	early.Start, late.Start = firstMoment, lastMoment
	first, last := at(t, "00030101T000000"), at(t, "99971231T235959")
	for _, hi := range []int{math.MinInt, -1 << 50, firstMoment, first - 1, first, first + 1, 0, last - 1, last, last + 1, lastMoment, 1 << 50, math.MaxInt - 172800, math.MaxInt} {
		e := api.OK
		var want []api.Span
		if hi < first || hi > last {
			e = api.ErrRange
		} else {
			want = []api.Span{{Lo: firstMoment, Hi: firstMoment + hour}}
		}
		holdSpans(t, early, []api.Zone{{}}, hi, want, e)
		holdSpans(t, late, []api.Zone{{}}, hi, nil, e)
	}
	// These offsets lead out of the years, hi does not.
	holdSpans(t, early, []api.Zone{{Base: 64800}}, first, []api.Span{{Lo: firstMoment - 64800, Hi: firstMoment - 61200}}, api.OK)
	holdSpans(t, early, []api.Zone{{Base: -64800}}, first, []api.Span{{Lo: firstMoment + 64800, Hi: firstMoment + 68400}}, api.OK)
	// ErrRange ahead of Local's error.
	m = recurring(t, "20260105T090000", "FREQ=SECONDLY")
	holdSpans(t, m, []api.Zone{{}}, hi, nil, api.ErrMany)
	holdSpans(t, m, []api.Zone{bad}, hi, nil, api.ErrRange)
	holdSpans(t, m, nil, hi, nil, api.ErrRange)
}

// randomZone is a zone that may be; many have great gaps.
func randomZone(rnd *rand.Rand, near int) api.Zone {
	off := func() int {
		if rnd.Intn(2) == 0 {
			return 3600 * (rnd.Intn(37) - 18)
		}
		return rnd.Intn(129601) - 64800
	}
	z := api.Zone{Base: off()}
	u := near - 10*86400
	for range rnd.Intn(20) {
		z.Shifts = append(z.Shifts, api.Shift{At: u, Off: off()})
		u += 200000 + rnd.Intn(3)*rnd.Intn(500000)
	}
	if rnd.Intn(3) == 0 {
		z.Years = []api.Yearly{{Month: 1 + rnd.Intn(3), Nth: 1 + rnd.Intn(5), Wday: rnd.Intn(7), Sec: rnd.Intn(86400), Off: off()}, {Month: 5 + rnd.Intn(7), Nth: 1 + rnd.Intn(5), Wday: rnd.Intn(7), Sec: rnd.Intn(86400), Off: off()}}
		z.From = 1 + rnd.Intn(3000)
		z.Shifts = nil
	}
	return z
}

func TestP9_3P9_5Random(t *testing.T) {
	t.Parallel()
	rnd := rand.New(rand.NewSource(93))
	good, many, apart := 0, 0, 0
	for i := range 2000 {
		m := random(rnd)
		zones := make([]api.Zone, m.Zone+1+rnd.Intn(2))
		zones[m.Zone] = randomZone(rnd, m.Start)
		if !zone.May(zones[m.Zone]) {
			holdSpans(t, m, zones, 0, nil, api.ErrRange)
			continue
		}
		if i%2 == 0 {
			// Often, around shifts.
			m.Dates = upto(m.Start-5*86400, 1800+rnd.Intn(14400), 64)
			m.Dur = 1 + rnd.Intn(7200)
			if !May(m) {
				continue
			}
		}
		for _, hi := range []int{m.Start + rnd.Intn(3658*86400), m.Start + rnd.Intn(10*86400), m.Start - rnd.Intn(86400), rnd.Intn(1 << 33)} {
			if hi < firstEnd || hi > lastEnd {
				holdSpans(t, m, zones, hi, nil, api.ErrRange)
				continue
			}
			want, e := spansOf(m, zones[m.Zone], hi)
			holdSpans(t, m, zones, hi, want, e)
			holdApart(t, m, zones[m.Zone], want)
			if len(want) > 0 {
				good++
			}
			if e == api.ErrMany {
				many++
			}
			if len(want) > 10 {
				apart++
			}
		}
	}
	if good < 4000 || many < 40 || apart < 400 {
		t.Errorf("%d that are some time, %d too often, %d of many spans", good, many, apart)
	}
}

// holdApart holds that spans rise, are apart, begin where an occurrence does,
// and end where one does.
func holdApart(t *testing.T, m api.Meeting, z api.Zone, all []api.Span) {
	t.Helper()
	begins := map[int]int{}
	if len(all) > 0 {
		local, _ := Local(m, all[len(all)-1].Hi+172800)
		for _, l := range local {
			begins[zone.UTC(z, l)] = 0
		}
	}
	for i, s := range all {
		if i > 0 && s.Lo <= all[i-1].Hi {
			t.Fatalf("spans %v of %+v: not apart at %d", all, m, i)
		}
		_, a := begins[s.Lo]
		_, b := begins[s.Hi-m.Dur]
		if len(begins) > 0 && (!a || !b) {
			t.Fatalf("spans %v of %+v: no occurrence at %d", all, m, i)
		}
	}
}

// changes holds functions that make a meeting another one, field by field.
func changes() []func(m *api.Meeting) {
	return []func(m *api.Meeting){
		func(m *api.Meeting) { m.Zone++ }, func(m *api.Meeting) { m.Zone += 1 << 32 }, func(m *api.Meeting) { m.Start++ }, func(m *api.Meeting) { m.Start -= 1 << 32 }, func(m *api.Meeting) { m.Dur-- }, func(m *api.Meeting) { m.Dur = math.MinInt }, func(m *api.Meeting) { m.Recurs = !m.Recurs },
		func(m *api.Meeting) { m.Rule.Freq++ }, func(m *api.Meeting) { m.Rule.Interval++ }, func(m *api.Meeting) { m.Rule.Count++ }, func(m *api.Meeting) { m.Rule.Until++ }, func(m *api.Meeting) { m.Rule.Wkst++ }, func(m *api.Meeting) { m.Rule.Ends = !m.Rule.Ends },
		func(m *api.Meeting) { m.Rule.Month = []int{1} }, func(m *api.Meeting) { m.Rule.Week = []int{1} }, func(m *api.Meeting) { m.Rule.YearDay = []int{1} }, func(m *api.Meeting) { m.Rule.MonthDay = []int{1} }, func(m *api.Meeting) { m.Rule.Day = []api.Day{{}} }, func(m *api.Meeting) { m.Rule.Hour = []int{1} }, func(m *api.Meeting) { m.Rule.Minute = []int{1} }, func(m *api.Meeting) { m.Rule.Second = []int{1} }, func(m *api.Meeting) { m.Rule.Pos = []int{1} },
		func(m *api.Meeting) { m.Dates = append(slices.Clone(m.Dates), 5) }, func(m *api.Meeting) { m.Except = append(slices.Clone(m.Except), 5) }, func(m *api.Meeting) { m.Dates = append([]int{5}, m.Dates...) }, func(m *api.Meeting) { m.Except = append([]int{5}, m.Except...) },
	}
}

func TestP9_4Same(t *testing.T) {
	wrong := api.Meeting{Zone: -1, Start: math.MinInt, Dur: math.MaxInt, Rule: api.Rule{Freq: 99, Day: []api.Day{{N: 99, W: 99}}}, Dates: []int{5, 5, 1}, Except: []int{math.MaxInt, math.MinInt}}
	for i, m := range []api.Meeting{{}, plain(), full(), longest(), wrong} {
		if !Same(m, m) {
			t.Errorf("meeting %d is not the same as itself", i)
		}
		for j, f := range changes() {
			x, y := m, m
			f(&x)
			f(&y)
			if Same(x, m) || Same(m, x) || !Same(x, y) {
				t.Errorf("meeting %d, change %d", i, j)
			}
		}
		for _, list := range []func(m *api.Meeting) *[]int{func(m *api.Meeting) *[]int { return &m.Dates }, func(m *api.Meeting) *[]int { return &m.Except }} {
			for k := range *list(&m) {
				x := m
				*list(&x) = slices.Clone(*list(&m))
				if !Same(x, m) || !Same(m, x) {
					t.Errorf("meeting %d: a copy is not the same", i)
				}
				(*list(&x))[k]++
				if Same(x, m) || Same(m, x) {
					t.Errorf("meeting %d, number %d", i, k)
				}
				*list(&x) = slices.Delete((*list(&x)), k, k+1)
				if Same(x, m) || Same(m, x) {
					t.Errorf("meeting %d, without number %d", i, k)
				}
			}
		}
	}
	a, b := plain(), plain()
	a.Dates, a.Except, a.Rule.Month, a.Rule.Day = []int{}, []int{}, []int{}, []api.Day{}
	if !Same(a, b) || !Same(b, a) {
		t.Error("nil and the empty list are not the same")
	}
	a, b = plain(), plain()
	a.Dates, b.Except = []int{1}, []int{1}
	if Same(a, b) {
		t.Error("Dates are Except")
	}
	a.Dates, b.Except, b.Dates = []int{1, 2}, nil, []int{2, 1}
	if Same(a, b) {
		t.Error("another order is the same")
	}
	// At the same times, but by another rule.
	once := full()
	once.Rule = api.Rule{Freq: 4, Interval: 7, Count: 2}
	if Same(once, full()) {
		t.Error("another rule is the same")
	}
}

// roomy is the list in the midst of memory that has something else around it.
func roomy[T any](list []T, other T) ([]T, []T) {
	all := append([]T{other, other}, list...)
	all = append(all, other, other, other)
	return all[2 : 2+len(list)], all
}

// What is handed in stays as it is, what lies behind it too.
func TestP9_4In(t *testing.T) {
	m := full()
	m.Rule = api.Rule{Freq: 4, Interval: 1, Count: 30}
	plainDates, plainExcept := m.Dates, m.Except
	var alls [][]int
	for _, f := range []struct {
		list *[]int
		has  []int
	}{{&m.Dates, plainDates}, {&m.Except, plainExcept}, {&m.Rule.Month, []int{1, 2}}, {&m.Rule.Hour, []int{3, 4}}, {&m.Rule.Minute, []int{5}}, {&m.Rule.Second, []int{6, 7, 8}}, {&m.Rule.MonthDay, []int{-1, 7, 8}}, {&m.Rule.Pos, []int{-1, 1}}} {
		list, all := roomy(f.has, m.Start+1)
		*f.list = list
		alls = append(alls, all)
	}
	days, allDays := roomy([]api.Day{{W: 3}, {W: 5}}, api.Day{N: 99, W: 99})
	m.Rule.Day = days
	z := middle()
	shifts, allShifts := roomy([]api.Shift{{At: 0, Off: 60}}, api.Shift{At: 5, Off: 99999})
	years, allYears := roomy(z.Years, api.Yearly{Month: 99})
	z.Shifts, z.Years = shifts, years
	zones, allZones := roomy([]api.Zone{{Base: 5}, z}, api.Zone{Base: 99999})
	was := make([][]int, len(alls))
	for i, all := range alls {
		was[i] = slices.Clone(all)
	}
	wasDays, wasShifts, wasYears := slices.Clone(allDays), slices.Clone(allShifts), slices.Clone(allYears)

	b, e := Print(m)
	back, _, f := Parse(b)
	if e != api.OK || f != api.OK || !Same(back, m) || !same(back, m) || !May(m) {
		t.Errorf("%q, %d, %d", b, e, f)
	}
	hi := m.Start + 3000*86400
	l, e := Local(m, hi)
	want, _ := occurs(back, hi)
	if e != api.OK || !slices.Equal(l, want) || len(l) < 5 {
		t.Errorf("Local: %v, %d, not %v", l, e, want)
	}
	s, e := Spans(m, zones, hi)
	wantSpans, _ := spansOf(back, z, hi)
	if e != api.OK || !slices.Equal(s, wantSpans) || len(s) < 5 {
		t.Errorf("Spans: %v, %d, not %v", s, e, wantSpans)
	}
	Local(m, math.MaxInt)
	Spans(m, zones, math.MaxInt)
	for i, all := range alls {
		if !slices.Equal(all, was[i]) {
			t.Errorf("list %d is %v, was %v", i, all, was[i])
		}
	}
	if !slices.Equal(allDays, wasDays) || !slices.Equal(allShifts, wasShifts) || !slices.Equal(allYears, wasYears) {
		t.Errorf("%v, %v, %v, were %v, %v, %v", allDays, allShifts, allYears, wasDays, wasShifts, wasYears)
	}
	if len(allZones) != 7 || allZones[0].Base != 99999 || allZones[2].Base != 5 || !zone.Same(allZones[3], z) || allZones[4].Base != 99999 || allZones[6].Base != 99999 {
		t.Errorf("zones are %+v", allZones)
	}
	// A text in the midst of another one.
	text, all := roomy([]byte(lines(startText, durText, ruleText, dateText, outText)), 'X')
	kept := slices.Clone(all)
	got, _, e := Parse(text)
	if e != api.OK || !same(got, full()) || !bytes.Equal(all, kept) {
		t.Errorf("Parse: %+v, %d; %q", got, e, all)
	}
	clear(all)
	if !same(got, full()) {
		t.Errorf("the text is kept: %+v", got)
	}
}

// spoil writes into the list, and into its spare room.
func spoil(list []int) {
	list = append(list, -77)
	list = list[:cap(list)]
	for i := range list {
		list[i] = -77
	}
}

// Whatever is written into an answer, no other one, nor the meeting, shows it.
func TestP9_4Out(t *testing.T) {
	once := plain()
	once.Dates = []int{1, 2, 3}
	dates := full()
	dates.Except = nil
	none := full()
	none.Except = slices.Sorted(slices.Values(append([]int{none.Start, none.Start + 7*86400}, none.Dates...)))
	zones := []api.Zone{{}, middle()}
	for i, m := range []api.Meeting{full(), plain(), once, dates, none, recurring(t, "20260105T090000", "FREQ=DAILY;BYHOUR=1,2,3")} {
		hi := m.Start + 30*86400
		text, _ := Print(m)
		local, _ := Local(m, hi)
		when, _ := Spans(m, zones, hi)
		keptText, keptLocal, keptWhen := slices.Clone(text), slices.Clone(local), slices.Clone(when)
		for range 3 {
			b, _ := Print(m)
			b = append(b, 'X')
			clear(b[:cap(b)])
			l, _ := Local(m, hi)
			spoil(l)
			s, _ := Spans(m, zones, hi)
			s = append(s, api.Span{})
			clear(s[:cap(s)])
			x, _, _ := Parse(text)
			y, _, _ := Parse(text)
			spoil(x.Dates)
			if !slices.Equal(x.Except, y.Except) || !rule.Same(x.Rule, y.Rule) {
				t.Errorf("meeting %d: Dates are behind Except, or the rule's lists", i)
			}
			spoil(x.Except)
			spoil(x.Rule.Hour)
			if !same(y, m) {
				t.Errorf("meeting %d: two answers share memory: %+v", i, y)
			}
		}
		if !bytes.Equal(text, keptText) || !slices.Equal(local, keptLocal) || !slices.Equal(when, keptWhen) {
			t.Errorf("meeting %d: %q, %v, %v", i, text, local, when)
		}
		b, _ := Print(m)
		l, _ := Local(m, hi)
		s, _ := Spans(m, zones, hi)
		if !bytes.Equal(b, keptText) || !slices.Equal(l, keptLocal) || !slices.Equal(s, keptWhen) {
			t.Errorf("meeting %d: another time %q, %v, %v", i, b, l, s)
		}
	}
	if !slices.Equal(once.Dates, []int{1, 2, 3}) || !same(dates, api.Meeting{Zone: 1, Start: full().Start, Dur: hour, Recurs: true, Rule: full().Rule, Dates: full().Dates}) {
		t.Error("the meeting is changed")
	}
}

// A meeting is asked anew each time: what its lists had before counts no more.
func TestP9_4NotKept(t *testing.T) {
	m := plain()
	m.Dates, m.Except = []int{100, 200}, []int{300}
	holdLocal(t, m, m.Start, []int{100, 200}, api.OK)
	m.Dates[0], m.Except[0] = 150, 200
	holdLocal(t, m, m.Start, []int{150}, api.OK)
	zones := []api.Zone{{Base: 50}}
	holdSpans(t, m, zones, m.Start-50, []api.Span{{Lo: 100, Hi: 3700}}, api.OK)
	zones[0].Base = 60
	m.Dates[0] = 160
	holdSpans(t, m, zones, m.Start-60, []api.Span{{Lo: 100, Hi: 3700}}, api.OK)
	m.Dates[0] = 200
	if b, e := Print(m); May(m) || len(b) > 0 || e != api.ErrRange {
		t.Errorf("%q, %d", b, e)
	}
}

// What is printed is read as the meeting, and printed again just so.
func TestP9_5Back(t *testing.T) {
	t.Parallel()
	rnd := rand.New(rand.NewSource(95))
	for range 6000 {
		m := random(rnd)
		b, e := Print(m)
		if !May(m) || e != api.OK {
			t.Fatalf("Print(%+v): %d", m, e)
		}
		holdParse(t, string(b), m, 0, api.OK)
		got, _, _ := Parse(b)
		if again, f := Print(got); !bytes.Equal(again, b) || f != api.OK {
			t.Fatalf("Print of Parse(%q) = %q, %d", b, again, f)
		}
	}
}

// What is read, however it stood, and printed, is read as the same.
func TestP9_5Texts(t *testing.T) {
	t.Parallel()
	rnd := rand.New(rand.NewSource(96))
	rules := []string{"FREQ=WEEKLY;BYDAY=SU,MO,SU", "BYHOUR=12,0;INTERVAL=1;FREQ=DAILY;COUNT=0", "WKST=MO;FREQ=YEARLY;BYWEEKNO=2,-2", "UNTIL=20300101T000000;FREQ=MONTHLY;BYMONTHDAY=31,-1,1;BYSETPOS=2,1", "FREQ=SECONDLY;COUNT=4096"}
	good := 0
	for range 6000 {
		m := random(rnd)
		b, _ := Print(m)
		s := string(b)
		if at := strings.Index(s, "RRULE:"); at >= 0 && rnd.Intn(2) == 0 {
			end := at + strings.Index(s[at:], "\r\n")
			s = s[:at] + "RRULE:" + rules[rnd.Intn(len(rules))] + s[end:]
			s = strings.ReplaceAll(s, "\r\n ", "")
		}
		for range rnd.Intn(4) {
			at := 1 + rnd.Intn(len(s)-1)
			s = s[:at] + "\n " + s[at:]
		}
		if rnd.Intn(2) == 0 {
			s = strings.ReplaceAll(s, "\r\n", "\n")
		}
		got, _, e := Parse([]byte(s))
		if e != api.OK {
			continue
		}
		good++
		again, e := Print(got)
		if e != api.OK || !May(got) {
			t.Fatalf("Print of Parse(%q): %d", s, e)
		}
		holdParse(t, string(again), got, 0, api.OK)
	}
	if good < 2000 {
		t.Errorf("%d that can be read", good)
	}
}

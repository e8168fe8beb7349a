package rule

import (
	"fmt"
	"maps"
	"math"
	"math/rand"
	"reflect"
	"regexp"
	"slices"
	"strconv"
	"strings"
	"testing"

	"convoker/api"
	"convoker/stamp"
)

const (
	first = -62135596800 // 0001-01-01T00:00:00
	last  = 253402300799 // 9999-12-31T23:59:59
)

// far holds numbers that no field of a rule may have.
var far = []int{math.MinInt, math.MinInt + 1, -1 << 32, -1000000000, 1000000000, 1 << 32, math.MaxInt - 1, math.MaxInt}

// outside holds what is none of lo to hi.
func outside(lo, hi int) []int {
	return append([]int{lo - 1, lo - 2, hi + 1, hi + 2}, far...)
}

func plain(freq int) api.Rule { return api.Rule{Freq: freq, Interval: 1} }

// upto holds the numbers from lo on to hi.
func upto(lo, hi int) []int {
	var all []int
	for n := lo; n <= hi; n++ {
		all = append(all, n)
	}
	return all
}

// weekdayList holds n days, rising.
func weekdayList(n int) []api.Day {
	var all []api.Day
	for i := range n {
		all = append(all, api.Day{N: i/7 - 4, W: i % 7})
	}
	return all
}

// full has something in every field that a yearly rule may have beside a Count.
func full() api.Rule {
	return api.Rule{
		Freq: 1, Interval: 2, Count: 3, Wkst: 4,
		Month: []int{5, 6}, YearDay: []int{-7, 8}, MonthDay: []int{-9, 10}, Day: []api.Day{{N: -11, W: 1}, {N: 0, W: 2}, {N: 12, W: 0}},
		Hour: []int{13, 14}, Minute: []int{15, 16}, Second: []int{17, 18}, Pos: []int{-19, 20},
	}
}

// field is one of the lists of numbers: what it may have, how its part is
// named, of which Freq it may be.
type field struct {
	name   string
	lo, hi int
	zero   bool
	freq   int
	of     func(r *api.Rule) *[]int
}

func fields() []field {
	return []field{
		{"BYMONTH", 1, 12, false, 1, func(r *api.Rule) *[]int { return &r.Month }},
		{"BYWEEKNO", -53, 53, false, 1, func(r *api.Rule) *[]int { return &r.Week }},
		{"BYYEARDAY", -366, 366, false, 1, func(r *api.Rule) *[]int { return &r.YearDay }},
		{"BYMONTHDAY", -31, 31, false, 1, func(r *api.Rule) *[]int { return &r.MonthDay }},
		{"BYHOUR", 0, 23, true, 5, func(r *api.Rule) *[]int { return &r.Hour }},
		{"BYMINUTE", 0, 59, true, 5, func(r *api.Rule) *[]int { return &r.Minute }},
		{"BYSECOND", 0, 59, true, 5, func(r *api.Rule) *[]int { return &r.Second }},
		{"BYSETPOS", -366, 366, false, 1, func(r *api.Rule) *[]int { return &r.Pos }},
	}
}

// base is a rule in which the field may have any of its numbers.
func (f field) base() api.Rule {
	r := plain(f.freq)
	if f.name == "BYSETPOS" {
		r.Month = []int{1}
	}
	return r
}

// holdMay holds May, and what Print and Parse say of the same rule.
func holdMay(t *testing.T, r api.Rule, want bool) {
	t.Helper()
	if got := May(r); got != want {
		t.Fatalf("May(%+v) = %t", r, got)
	}
	text, e := Print(r)
	if !want && (text != "" || e != api.ErrRange) {
		t.Fatalf("Print(%+v) = %q, %d", r, text, e)
	}
	if want && (text != print(r) || e != api.OK) {
		t.Fatalf("Print(%+v) = %q, %d, not %q", r, text, e, print(r))
	}
	if want {
		holdBack(t, r, text)
	}
}

// holdBack holds that the text is read as the rule.
func holdBack(t *testing.T, r api.Rule, text string) {
	t.Helper()
	back, at, e := Parse(text)
	if !same(back, r) || !Same(back, r) || at != 0 || e != api.OK {
		t.Fatalf("Parse(%q) = %+v, %d, %d, not %+v", text, back, at, e, r)
	}
}

// holdParse holds Parse against what is wanted, and the rule beside an error.
func holdParse(t *testing.T, s string, want api.Rule, place int, err api.Errno) {
	t.Helper()
	got, at, e := Parse(s)
	if !same(got, want) || at != place || e != err {
		t.Fatalf("Parse(%q) = %+v, %d, %d, not %+v, %d, %d", s, got, at, e, want, place, err)
	}
}

// same is Same, by each field's value, whatever the fields are.
func same(a, b api.Rule) bool {
	x, y := reflect.ValueOf(a), reflect.ValueOf(b)
	for i := range x.NumField() {
		f, g := x.Field(i), y.Field(i)
		if f.Kind() == reflect.Slice && f.Len() == 0 && g.Len() == 0 {
			continue
		}
		if !reflect.DeepEqual(f.Interface(), g.Interface()) {
			return false
		}
	}
	return true
}

// print is the text of a rule that may be, made by filling in a pattern and
// striking out what isn't there.
func print(r api.Rule) string {
	until := ""
	if r.Ends {
		until, _ = stamp.Text(r.Until)
	}
	var days []string
	for _, d := range r.Day {
		days = append(days, strings.TrimPrefix(fmt.Sprintf("%d%s", d.N, "MOTUWETHFRSASU"[2*d.W:2*d.W+2]), "0"))
	}
	nums := func(l []int) string { return strings.Trim(strings.ReplaceAll(fmt.Sprint(l), " ", ","), "[]") }
	s := fmt.Sprintf("FREQ=%s;INTERVAL=%d;COUNT=%d;UNTIL=%s;BYMONTH=%s;BYWEEKNO=%s;BYYEARDAY=%s;BYMONTHDAY=%s;BYDAY=%s;BYHOUR=%s;BYMINUTE=%s;BYSECOND=%s;BYSETPOS=%s;WKST=%s;",
		strings.Fields("YEARLY MONTHLY WEEKLY DAILY HOURLY MINUTELY SECONDLY")[r.Freq-1], r.Interval, r.Count, until,
		nums(r.Month), nums(r.Week), nums(r.YearDay), nums(r.MonthDay), strings.Join(days, ","), nums(r.Hour), nums(r.Minute), nums(r.Second), nums(r.Pos), "MOTUWETHFRSASU"[2*r.Wkst:2*r.Wkst+2])
	return strings.TrimSuffix(gone.ReplaceAllString(s, ""), ";")
}

var gone = regexp.MustCompile(`INTERVAL=1;|COUNT=0;|WKST=MO;|[A-Z]+=;`)

// rising tells whether a list has no more than sixty numbers, all of lo to hi,
// in order, each once.
func rising(l []int, lo, hi int, zero bool) bool {
	sorted := slices.Compact(slices.Sorted(slices.Values(l)))
	if len(l) > 60 || !slices.Equal(l, sorted) || !zero && slices.Contains(l, 0) {
		return false
	}
	return len(l) == 0 || slices.Min(l) >= lo && slices.Max(l) <= hi
}

// may is May, word by word as the chapter has it.
func may(r api.Rule) bool {
	for _, f := range fields() {
		if !rising(*f.of(&r), f.lo, f.hi, f.zero) {
			return false
		}
	}
	var days []int
	numbered := false
	for _, d := range r.Day {
		if d.N < -53 || d.N > 53 || d.W < 0 || d.W > 6 {
			return false
		}
		numbered = numbered || d.N != 0
		days = append(days, d.N*7+d.W)
	}
	switch {
	case !rising(days, math.MinInt, math.MaxInt, true):
	case r.Freq < 1 || r.Freq > 7 || r.Interval < 1 || r.Interval > 1000 || r.Count < 0 || r.Count > 4096 || r.Wkst < 0 || r.Wkst > 6:
	case r.Until != 0 && !r.Ends, r.Ends && r.Count != 0, r.Until < first, r.Until > last:
	default:
		return mayBeside(r, numbered)
	}
	return false
}

// mayBeside tells whether lists that may be may stand together.
func mayBeside(r api.Rule, numbered bool) bool {
	has := map[string]bool{"week": r.Week != nil, "yearday": r.YearDay != nil, "monthday": r.MonthDay != nil, "numbered": numbered}
	var not []string
	switch r.Freq {
	case 1:
		if r.Week != nil {
			not = []string{"numbered"}
		}
	case 2:
		not = []string{"week", "yearday"}
	case 3:
		not = []string{"week", "yearday", "monthday", "numbered"}
	case 4:
		not = []string{"week", "yearday", "numbered"}
	default:
		not = []string{"week", "numbered"}
	}
	for _, name := range not {
		if has[name] {
			return false
		}
	}
	times := 1
	for _, l := range [][]int{r.Hour, r.Minute, r.Second} {
		if len(l) > 0 {
			times *= len(l)
		}
	}
	alone := r
	alone.Freq, alone.Interval, alone.Count, alone.Until, alone.Wkst, alone.Ends, alone.Pos = 0, 0, 0, 0, 0, false, nil
	return (r.Freq >= 5 || times <= 1000) && (r.Pos == nil || !same(alone, api.Rule{}))
}

func TestP5_1MayNumbers(t *testing.T) {
	for f := 1; f <= 7; f++ {
		holdMay(t, plain(f), true)
		for n := 1; n <= 1000; n++ {
			holdMay(t, api.Rule{Freq: f, Interval: n}, true)
		}
		for n := 0; n <= 4096; n++ {
			holdMay(t, api.Rule{Freq: f, Interval: 1, Count: n}, true)
		}
		for n := 0; n <= 6; n++ {
			holdMay(t, api.Rule{Freq: f, Interval: 1, Wkst: n}, true)
		}
		for _, n := range outside(1, 1000) {
			holdMay(t, api.Rule{Freq: f, Interval: n}, false)
		}
		for _, n := range outside(0, 4096) {
			holdMay(t, api.Rule{Freq: f, Interval: 1, Count: n}, false)
		}
		for _, n := range outside(0, 6) {
			holdMay(t, api.Rule{Freq: f, Interval: 1, Wkst: n}, false)
		}
	}
	for _, n := range outside(1, 7) {
		holdMay(t, plain(n), false)
	}
	holdMay(t, api.Rule{}, false)
}

func TestP5_1MayUntil(t *testing.T) {
	for _, n := range []int{first, first + 1, -1, 0, 1, 1 << 31, last - 1, last} {
		holdMay(t, api.Rule{Freq: 4, Interval: 1, Ends: true, Until: n}, true)
		holdMay(t, api.Rule{Freq: 4, Interval: 1, Until: n}, n == 0)
		for _, c := range []int{-1, 1, 2, 4096} {
			holdMay(t, api.Rule{Freq: 4, Interval: 1, Ends: true, Until: n, Count: c}, false)
		}
	}
	for _, n := range []int{first - 1, last + 1, math.MinInt, -1 << 50, 1 << 50, math.MaxInt} {
		holdMay(t, api.Rule{Freq: 4, Interval: 1, Ends: true, Until: n}, false)
		holdMay(t, api.Rule{Freq: 4, Interval: 1, Until: n}, false)
	}
}

// Each number that a list may have, each pair of them that are near, and what
// lies outside, at the front and at the back.
func TestP5_1MayLists(t *testing.T) {
	for _, f := range fields() {
		hold := func(want bool, l ...int) {
			t.Helper()
			r := f.base()
			*f.of(&r) = l
			holdMay(t, r, want)
		}
		for n := f.lo; n <= f.hi; n++ {
			ok := n != 0 || f.zero
			hold(ok, n)
			hold(false, n, n)
			hold(false, n+1, n)
			if n < f.hi {
				hold(ok && (n+1 != 0 || f.zero), n, n+1)
			}
			if n > f.lo && n < f.hi {
				hold(ok, f.lo, n, f.hi)
				hold(false, f.lo, f.hi, n)
				hold(false, n, f.lo, f.hi)
			}
		}
		hold(true)
		for _, n := range outside(f.lo, f.hi) {
			hold(false, n)
			hold(false, min(n, 1), max(n, 1))
			hold(false, slices.Sorted(slices.Values([]int{1, 2, n}))...)
		}
	}
}

func TestP5_1MayDays(t *testing.T) {
	hold := func(want bool, l ...api.Day) {
		t.Helper()
		r := plain(1)
		r.Day = l
		holdMay(t, r, want)
	}
	var all []api.Day
	for n := -53; n <= 53; n++ {
		for w := range 7 {
			all = append(all, api.Day{N: n, W: w})
			hold(true, api.Day{N: n, W: w})
			for _, x := range outside(0, 6) {
				hold(false, api.Day{N: n, W: x})
				hold(false, api.Day{N: -53, W: 0}, api.Day{N: n, W: x})
			}
		}
	}
	for i, a := range all {
		for j, b := range all {
			if (i*len(all)+j)%31 == 0 || j-i <= 8 && i-j <= 8 {
				hold(i < j, a, b)
				hold(false, a, b, a)
			}
		}
	}
	for _, x := range outside(-53, 53) {
		for w := range 7 {
			hold(false, api.Day{N: x, W: w})
			hold(false, api.Day{N: min(x, 1), W: w}, api.Day{N: max(x, 1), W: w})
		}
	}
	hold(true, all[:60]...)
	hold(true, all[len(all)-60:]...)
	hold(false, all[:61]...)
	hold(false, all...)
}

func TestP5_1MaySixty(t *testing.T) {
	for _, f := range fields() {
		all := upto(f.lo, f.hi)
		if !f.zero {
			all = slices.DeleteFunc(all, func(n int) bool { return n == 0 })
		}
		r := f.base()
		for n := range len(all) + 1 {
			*f.of(&r) = all[:n]
			holdMay(t, r, n <= 60)
			*f.of(&r) = all[len(all)-n:]
			holdMay(t, r, n <= 60)
		}
	}
	for n := range 100 {
		r := plain(2)
		r.Day = weekdayList(n)
		holdMay(t, r, n <= 60)
	}
	r := plain(6)
	r.Minute = make([]int, 1<<20)
	holdMay(t, r, false)
}

// Each Freq, with each choice of lists that have something.
func TestP5_1MayTogether(t *testing.T) {
	all := fields()
	for freq := 1; freq <= 7; freq++ {
		for set := range 1 << (len(all) + 2) {
			r := plain(freq)
			for i, f := range all {
				if set>>i&1 == 1 {
					*f.of(&r) = []int{1}
				}
			}
			if set>>len(all)&1 == 1 {
				r.Day = append(r.Day, api.Day{N: 0, W: 3})
			}
			if set>>len(all)&2 == 2 {
				r.Day = append(r.Day, api.Day{N: 1, W: 3})
			}
			holdMay(t, r, may(r))
		}
		// A number below 0 is one too, behind a day without one or ahead of it.
		for _, l := range [][]api.Day{{{N: -1, W: 3}}, {{N: -1, W: 3}, {N: 0, W: 1}}, {{N: 0, W: 1}, {N: 53, W: 6}}} {
			r := plain(freq)
			r.Day = l
			holdMay(t, r, freq <= 2)
			r.Week = []int{1}
			holdMay(t, r, false)
		}
	}
}

func TestP5_1MayTimes(t *testing.T) {
	hours, minutes := upto(0, 23), upto(0, 59)
	for freq := 1; freq <= 7; freq++ {
		for h := range 25 {
			for m := range 61 {
				for s := range 61 {
					times := max(h, 1) * max(m, 1) * max(s, 1)
					r := plain(freq)
					r.Hour, r.Minute, r.Second = hours[:h], minutes[:m], minutes[:s]
					if May(r) != (freq > 4 || times <= 1000) {
						t.Fatalf("May of Freq %d, %d hours, %d minutes, %d seconds: %t", freq, h, m, s, May(r))
					}
				}
			}
		}
	}
}

func TestP5_1PrintKnown(t *testing.T) {
	for _, c := range []struct {
		r    api.Rule
		text string
	}{
		{plain(1), "FREQ=YEARLY"}, {plain(2), "FREQ=MONTHLY"}, {plain(3), "FREQ=WEEKLY"}, {plain(4), "FREQ=DAILY"},
		{plain(5), "FREQ=HOURLY"}, {plain(6), "FREQ=MINUTELY"}, {plain(7), "FREQ=SECONDLY"},
		{full(), "FREQ=YEARLY;INTERVAL=2;COUNT=3;BYMONTH=5,6;BYYEARDAY=-7,8;BYMONTHDAY=-9,10;BYDAY=-11TU,WE,12MO;BYHOUR=13,14;BYMINUTE=15,16;BYSECOND=17,18;BYSETPOS=-19,20;WKST=FR"},
		{api.Rule{Freq: 1, Interval: 1000, Ends: true, Until: first, Week: []int{-53, -1, 1, 53}, Day: weekdayList(35)[28:]}, "FREQ=YEARLY;INTERVAL=1000;UNTIL=00010101T000000;BYWEEKNO=-53,-1,1,53;BYDAY=MO,TU,WE,TH,FR,SA,SU"},
		{api.Rule{Freq: 7, Interval: 1, Ends: true, Until: 0}, "FREQ=SECONDLY;UNTIL=19700101T000000"},
		{api.Rule{Freq: 7, Interval: 1, Ends: true, Until: last}, "FREQ=SECONDLY;UNTIL=99991231T235959"},
		{api.Rule{Freq: 2, Interval: 1, Count: 3, Day: []api.Day{{N: -1, W: 0}, {N: 0, W: 4}}}, "FREQ=MONTHLY;COUNT=3;BYDAY=-1MO,FR"},
		{api.Rule{Freq: 5, Interval: 1, Hour: []int{0}, Minute: []int{0, 5}, Second: []int{0}, Pos: []int{-1}}, "FREQ=HOURLY;BYHOUR=0;BYMINUTE=0,5;BYSECOND=0;BYSETPOS=-1"},
		{api.Rule{Freq: 3, Interval: 1, Count: 4096, Wkst: 6}, "FREQ=WEEKLY;COUNT=4096;WKST=SU"},
		{api.Rule{Freq: 3, Interval: 1, Month: []int{}, Day: []api.Day{}, Pos: []int{}}, "FREQ=WEEKLY"},
	} {
		text, e := Print(c.r)
		if text != c.text || e != api.OK {
			t.Errorf("Print(%+v) = %q, %d, not %q", c.r, text, e, c.text)
		}
		holdMay(t, c.r, true)
	}
}

func TestP5_1ParseKnown(t *testing.T) {
	for _, c := range []struct {
		text string
		r    api.Rule
	}{
		{"FREQ=MONTHLY;BYDAY=FR,-1MO;COUNT=3", api.Rule{Freq: 2, Interval: 1, Count: 3, Day: []api.Day{{N: -1, W: 0}, {N: 0, W: 4}}}},
		{"INTERVAL=1;COUNT=0;WKST=MO;FREQ=DAILY", plain(4)},
		{"COUNT=0;UNTIL=20260101T000000;FREQ=DAILY", api.Rule{Freq: 4, Interval: 1, Ends: true, Until: 1767225600}},
		{"UNTIL=19700101T000000;FREQ=DAILY", api.Rule{Freq: 4, Interval: 1, Ends: true}},
		{"BYSETPOS=-1,366,-1,1,-366;BYSECOND=59,0;BYMINUTE=59,1,0,59;BYHOUR=23,0,1;FREQ=HOURLY", api.Rule{Freq: 5, Interval: 1, Hour: []int{0, 1, 23}, Minute: []int{0, 1, 59}, Second: []int{0, 59}, Pos: []int{-366, -1, 1, 366}}},
		{"BYDAY=SU,1MO,MO,-1SU,1MO,-1MO,-2SU,SU;FREQ=YEARLY", api.Rule{Freq: 1, Interval: 1, Day: []api.Day{{N: -2, W: 6}, {N: -1, W: 0}, {N: -1, W: 6}, {N: 0, W: 0}, {N: 0, W: 6}, {N: 1, W: 0}}}},
		{"BYWEEKNO=53,-53,1,-1;FREQ=YEARLY;BYDAY=SU,SA,FR,TH,WE,TU,MO", api.Rule{Freq: 1, Interval: 1, Week: []int{-53, -1, 1, 53}, Day: weekdayList(35)[28:]}},
		{"BYYEARDAY=366,-366;BYMONTHDAY=31,-31;BYMONTH=12,1;FREQ=YEARLY", api.Rule{Freq: 1, Interval: 1, Month: []int{1, 12}, YearDay: []int{-366, 366}, MonthDay: []int{-31, 31}}},
		// Ten is behind nine, and below 0 ahead of it.
		{"FREQ=YEARLY;BYMONTHDAY=10,9,-9,-10,1", api.Rule{Freq: 1, Interval: 1, MonthDay: []int{-10, -9, 1, 9, 10}}},
	} {
		holdParse(t, c.text, c.r, 0, api.OK)
		text, e := Print(c.r)
		if e != api.OK {
			t.Fatalf("Print(%+v): %d", c.r, e)
		}
		holdBack(t, c.r, text)
	}
}

// The parts of the full rule in many orders, and one of them told twice.
func TestP5_1ParseAnyOrder(t *testing.T) {
	text, _ := Print(full())
	parts := strings.Split(text, ";")
	for i := range parts {
		for j := range parts {
			l := slices.Clone(parts)
			l[i], l[j] = l[j], l[i]
			holdParse(t, strings.Join(l, ";"), full(), 0, api.OK)
		}
	}
	r := rand.New(rand.NewSource(5))
	for range 2000 {
		r.Shuffle(len(parts), func(i, j int) { parts[i], parts[j] = parts[j], parts[i] })
		holdParse(t, strings.Join(parts, ";"), full(), 0, api.OK)
		// One of them once more, at any place behind it, is wrong there.
		at := r.Intn(len(parts))
		again := at + 1 + r.Intn(len(parts)-at)
		holdParse(t, strings.Join(slices.Insert(slices.Clone(parts), again, parts[at]), ";"), api.Rule{}, again, api.ErrForm)
	}
}

// Each name of each part, one byte off, without a value, and twice.
func TestP5_1ParseNames(t *testing.T) {
	for _, s := range []string{"FREQ=DAILY", "INTERVAL=1", "COUNT=0", "UNTIL=19700101T000000", "BYMONTH=1", "BYWEEKNO=1", "BYYEARDAY=1", "BYMONTHDAY=1", "BYDAY=MO", "BYHOUR=1", "BYMINUTE=1", "BYSECOND=1", "BYSETPOS=1", "WKST=MO"} {
		name, value, _ := strings.Cut(s, "=")
		wrong := []string{"", name, value, "=", "=" + value, name + "=", name + value, name + ":" + value, " " + s, s + " ", name + " =" + value, name + "= " + value, s + "=", s + ",", name + "=" + s, name + "==" + value, name + "=," + value, strings.ToLower(s), strings.ToLower(name) + "=" + value, strings.ToUpper(s[:1]) + strings.ToLower(s[1:]), name + name + "=" + value, name + "\x00=" + value, s + "\n", name + "=\xff"}
		for i := range name {
			wrong = append(wrong, name[:i]+name[i+1:]+"="+value, name[:i]+"X"+name[i+1:]+"="+value, name[:i]+"X"+name[i:]+"="+value)
		}
		other := "INTERVAL=2"
		if name == "INTERVAL" {
			other = "COUNT=2"
		}
		for _, w := range wrong {
			holdParse(t, w, api.Rule{}, 0, api.ErrForm)
			holdParse(t, other+";"+w, api.Rule{}, 1, api.ErrForm)
			holdParse(t, other+";"+w+";"+other, api.Rule{}, 1, api.ErrForm)
			holdParse(t, s+";"+other+";"+w+";", api.Rule{}, 2, api.ErrForm)
		}
		holdParse(t, s+";"+s, api.Rule{}, 1, api.ErrForm)
		holdParse(t, s+";"+other+";"+s, api.Rule{}, 2, api.ErrForm)
		holdParse(t, s+";"+name+"=", api.Rule{}, 1, api.ErrForm)
	}
	for _, s := range []string{"BYEASTER=1", "DTSTART=19700101T000000", "RSCALE=GREGORIAN", "BY=1", "X-A=1", "FREQ;COUNT=1"} {
		holdParse(t, s, api.Rule{}, 0, api.ErrForm)
	}
}

func TestP5_1ParseWords(t *testing.T) {
	for i, w := range []string{"YEARLY", "MONTHLY", "WEEKLY", "DAILY", "HOURLY", "MINUTELY", "SECONDLY"} {
		holdParse(t, "FREQ="+w, plain(i+1), 0, api.OK)
		for j := range w {
			holdParse(t, "FREQ="+w[:j], api.Rule{}, 0, api.ErrForm)
			holdParse(t, "FREQ="+w[j+1:], api.Rule{}, 0, api.ErrForm)
			holdParse(t, "FREQ="+w[:j]+"\x00"+w[j+1:], api.Rule{}, 0, api.ErrForm)
		}
		for _, s := range []string{w + "Y", w + ",", w + "," + w, strings.ToLower(w), strconv.Itoa(i + 1)} {
			holdParse(t, "FREQ="+s, api.Rule{}, 0, api.ErrForm)
		}
	}
	// Each text of two bytes as a weekday.
	for a := range 256 {
		for b := range 256 {
			w := string([]byte{byte(a), byte(b)})
			if strings.ContainsAny(w, ";") {
				continue
			}
			r, place, e := api.Rule{}, 1, api.ErrForm
			wkst := r
			if i := slices.Index([]string{"MO", "TU", "WE", "TH", "FR", "SA", "SU"}, w); i >= 0 {
				r, place, e = plain(2), 0, api.OK
				wkst = plain(2)
				r.Day, wkst.Wkst = []api.Day{{W: i}}, i
			}
			holdParse(t, "FREQ=MONTHLY;WKST="+w, wkst, place, e)
			holdParse(t, "FREQ=MONTHLY;BYDAY="+w, r, place, e)
			if place == 0 {
				r.Day[0].N = -2
			}
			holdParse(t, "FREQ=MONTHLY;BYDAY=-2"+w, r, place, e)
		}
	}
	for _, w := range []string{"1MO", "-1MO", "MO,TU", "MON", "M", "O", "0"} {
		holdParse(t, "FREQ=DAILY;WKST="+w, api.Rule{}, 1, api.ErrForm)
	}
}

// texts calls f with each text of at most n of the letters.
func texts(letters string, n int, f func(s string)) {
	f("")
	if n == 0 {
		return
	}
	for _, c := range []byte(letters) {
		texts(letters, n-1, func(s string) { f(string([]byte{c}) + s) })
	}
}

var (
	oneNumber = regexp.MustCompile(`^(0|-?[1-9][0-9]{0,8})$`)
	allDays   = regexp.MustCompile(`^(-?[1-9][0-9]{0,8})?(MO|TU|WE|TH|FR|SA|SU)$`)
)

// each tells whether all pieces between commas are such, and not too many.
func each(s string, one *regexp.Regexp) bool {
	pieces := strings.Split(s, ",")
	return len(pieces) <= 60 && !slices.ContainsFunc(pieces, func(p string) bool { return !one.MatchString(p) })
}

func TestP5_1ParseNumbers(t *testing.T) {
	texts("-+0129", 5, func(s string) {
		for _, name := range []string{"INTERVAL", "COUNT"} {
			_, at, e := Parse(name + "=" + s + ";FREQ=DAILY")
			if !oneNumber.MatchString(s) {
				if at != 0 || e != api.ErrForm {
					t.Fatalf("Parse of %s=%s: %d, %d", name, s, at, e)
				}
				continue
			}
			n, _ := strconv.Atoi(s)
			r := plain(4)
			if name == "COUNT" {
				r.Count = n
			} else {
				r.Interval = n
			}
			if may(r) {
				holdParse(t, "FREQ=DAILY;"+name+"="+s, r, 0, api.OK)
			} else {
				holdParse(t, "FREQ=DAILY;"+name+"="+s, api.Rule{}, 0, api.ErrRange)
			}
		}
	})
	for _, s := range []string{"1.0", "1e1", "0x1", "1_0", "1 ", " 1", "--1", "1-", "0,", "１", "\xff", "1,2", "1\x00", "∞", "NaN", "true", "MO"} {
		for _, name := range []string{"INTERVAL", "COUNT"} {
			holdParse(t, "FREQ=DAILY;"+name+"="+s, api.Rule{}, 1, api.ErrForm)
		}
	}
}

// Numbers of nine digits are none that may be, of ten none at all, wherever
// they stand.
func TestP5_1ParseNineDigits(t *testing.T) {
	for _, c := range []struct {
		text string
		e    api.Errno
	}{
		{"999999999", api.ErrRange}, {"-999999999", api.ErrRange}, {"100000000", api.ErrRange}, {"-100000000", api.ErrRange},
		{"1000000000", api.ErrForm}, {"-1000000000", api.ErrForm}, {"9999999999", api.ErrForm}, {"0999999999", api.ErrForm}, {"0000000001", api.ErrForm},
		{"4294967297", api.ErrForm}, {"9223372036854775807", api.ErrForm}, {"-9223372036854775808", api.ErrForm}, {"18446744073709551617", api.ErrForm}, {strings.Repeat("9", 4000), api.ErrForm},
	} {
		for _, name := range []string{"INTERVAL", "COUNT", "BYMONTH", "BYWEEKNO", "BYYEARDAY", "BYMONTHDAY", "BYHOUR", "BYMINUTE", "BYSECOND", "BYSETPOS", "BYDAY"} {
			s := "FREQ=YEARLY;" + name + "=" + c.text
			if name == "BYDAY" {
				s += "MO"
			}
			place := 0
			if c.e == api.ErrForm {
				place = 1
			}
			holdParse(t, s, api.Rule{}, place, c.e)
		}
	}
}

func TestP5_1ParseLists(t *testing.T) {
	// Each text of some letters, of each list: what is no list, what may not
	// be, and what is told rising.
	for _, f := range fields() {
		texts("-012,", 5, func(s string) {
			text := "BYMONTH=1;FREQ=YEARLY;" + f.name + "=" + s
			if f.name == "BYMONTH" {
				text = "COUNT=0;FREQ=YEARLY;" + f.name + "=" + s
			}
			if !each(s, oneNumber) {
				holdParse(t, text, api.Rule{}, 2, api.ErrForm)
				return
			}
			r := plain(1)
			r.Month = []int{1}
			var l []int
			for p := range strings.SplitSeq(s, ",") {
				n, _ := strconv.Atoi(p)
				l = append(l, n)
			}
			*f.of(&r) = slices.Compact(slices.Sorted(slices.Values(l)))
			if may(r) {
				holdParse(t, text, r, 0, api.OK)
			} else {
				holdParse(t, text, api.Rule{}, 0, api.ErrRange)
			}
		})
	}
	for _, s := range []string{"", ",", "+1", "+1MO", "0MO", "-0MO", "00MO", "01MO", "-01MO", "-MO", "M", "O", "1", "-1", "1M", "MO1", "MO-1", "mo", "1 MO", "MO,", ",MO", "MO,,TU", "MO TU", "MOTU", "1MOTU", "MO, TU", "1000000000MO", "-1000000000MO", "1.MO", "1\x00MO", "é", "1é"} {
		holdParse(t, "FREQ=YEARLY;BYDAY="+s, api.Rule{}, 1, api.ErrForm)
	}
	texts("-01,MO", 5, func(s string) {
		_, at, e := Parse("FREQ=YEARLY;BYDAY=" + s)
		if good := each(s, allDays); good == (e == api.ErrForm) || !good && at != 1 || good && at != 0 {
			t.Fatalf("Parse of BYDAY=%s: %d, %d", s, at, e)
		}
	})
}

// Sixty, of the same or of others, may be told; sixty-one are none.
func TestP5_1ParseSixty(t *testing.T) {
	names := []string{"BYDAY"}
	for _, f := range fields() {
		names = append(names, f.name)
	}
	for _, name := range names {
		item := "1"
		if name == "BYDAY" {
			item = "TU"
		}
		ahead := "FREQ=YEARLY;BYHOUR=1;"
		if name == "BYHOUR" {
			ahead = "FREQ=YEARLY;BYMINUTE=1;"
		}
		for n := 1; n <= 70; n++ {
			s := ahead + name + "=" + strings.Join(slices.Repeat([]string{item}, n), ",")
			if n > 60 {
				holdParse(t, s, api.Rule{}, 2, api.ErrForm)
				continue
			}
			r, _, e := Parse(s)
			if want, _, _ := Parse(ahead + name + "=" + item); !same(r, want) || e != api.OK {
				t.Fatalf("Parse(%q) = %+v, %d", s, r, e)
			}
		}
	}
	var falling []string
	for n := 60; n > 0; n-- {
		falling = append(falling, strconv.Itoa(n))
	}
	holdParse(t, "FREQ=YEARLY;BYYEARDAY="+strings.Join(falling, ","), api.Rule{Freq: 1, Interval: 1, YearDay: upto(1, 60)}, 0, api.OK)
	holdParse(t, "FREQ=YEARLY;BYYEARDAY=61,"+strings.Join(falling, ","), api.Rule{}, 1, api.ErrForm)
}

func TestP5_1ParseUntil(t *testing.T) {
	for _, n := range []int{first, first + 1, -1, 0, 1, 86399, 86400, last - 1, last} {
		text, _ := stamp.Text(n)
		holdParse(t, "UNTIL="+text+";FREQ=DAILY", api.Rule{Freq: 4, Interval: 1, Ends: true, Until: n}, 0, api.OK)
		for c := -2; c <= 2; c++ {
			s := "UNTIL=" + text + ";FREQ=DAILY;COUNT=" + strconv.Itoa(c)
			if c == 0 {
				holdParse(t, s, api.Rule{Freq: 4, Interval: 1, Ends: true, Until: n}, 0, api.OK)
			} else {
				holdParse(t, s, api.Rule{}, 0, api.ErrRange)
			}
		}
	}
	for _, s := range []string{"", "2026", "20260101", "20260101T00000", "20260101T0000000", "20260101T000000Z", "20260101t000000", "20260101 000000", "2026-1-1T000000", "20260230T000000", "20260101T240000", "20260101T006000", "20260101T000060", "00000101T000000", "20261301T000000", "20260100T000000", "0", "-1", "20260101T000000,20260102T000000"} {
		holdParse(t, "FREQ=DAILY;UNTIL="+s, api.Rule{}, 1, api.ErrForm)
		holdParse(t, "UNTIL="+s, api.Rule{}, 0, api.ErrForm)
	}
}

func TestP5_1ParseOrderOfErrors(t *testing.T) {
	long := "FREQ=DAILY;X" + strings.Repeat("1", 4096-12)
	holdParse(t, long, api.Rule{}, 1, api.ErrForm)
	holdParse(t, long+"1", api.Rule{}, 0, api.ErrLong)
	holdParse(t, strings.Repeat(";", 4096), api.Rule{}, 0, api.ErrForm)
	holdParse(t, strings.Repeat(";", 4097), api.Rule{}, 0, api.ErrLong)
	holdParse(t, strings.Repeat("A", 1<<24), api.Rule{}, 0, api.ErrLong)
	for _, c := range []struct {
		text  string
		place int
		e     api.Errno
	}{
		{"", 0, api.ErrForm}, {";", 0, api.ErrForm}, {"=", 0, api.ErrForm}, {";FREQ=DAILY", 0, api.ErrForm}, {"FREQ=DAILY;", 1, api.ErrForm}, {"FREQ=DAILY;;COUNT=1", 1, api.ErrForm},
		{"FREQ=DAILY;X", 1, api.ErrForm}, {"COUNT=1;INTERVAL=0;X", 2, api.ErrForm}, {"X;Y", 0, api.ErrForm}, {"FREQ=DAILY;COUNT=x;X", 1, api.ErrForm}, {"FREQ=DAILY;X;COUNT=x", 1, api.ErrForm},
		{"FREQ=X;FREQ=X", 0, api.ErrForm}, {"FREQ=WEEKLY;BYWEEKNO=1;FREQ=DAILY", 2, api.ErrForm}, {"FREQ=WEEKLY;BYWEEKNO=1;BYWEEKNO=x", 2, api.ErrForm},
		{"COUNT=1", 0, api.ErrNone}, {"INTERVAL=1;COUNT=0;WKST=MO", 0, api.ErrNone}, {"INTERVAL=0", 0, api.ErrNone}, {"COUNT=1;UNTIL=19700101T000000", 0, api.ErrNone}, {"BYSETPOS=0", 0, api.ErrNone}, {"BYDAY=99MO", 0, api.ErrNone},
		{"FREQ=WEEKLY;BYWEEKNO=1", 0, api.ErrRange}, {"INTERVAL=0;FREQ=DAILY", 0, api.ErrRange}, {"INTERVAL=1001;FREQ=DAILY", 0, api.ErrRange}, {"COUNT=4097;FREQ=DAILY", 0, api.ErrRange}, {"COUNT=-1;FREQ=DAILY", 0, api.ErrRange},
		{"FREQ=DAILY;BYSETPOS=1", 0, api.ErrRange}, {"FREQ=DAILY;BYHOUR=24", 0, api.ErrRange}, {"FREQ=DAILY;BYDAY=1MO", 0, api.ErrRange}, {"FREQ=YEARLY;BYDAY=1MO;BYWEEKNO=1", 0, api.ErrRange}, {"FREQ=YEARLY;BYDAY=54MO", 0, api.ErrRange},
		{"FREQ=DAILY;BYMONTH=0", 0, api.ErrRange}, {"FREQ=DAILY;BYMONTH=-1", 0, api.ErrRange}, {"FREQ=YEARLY;BYMONTHDAY=32", 0, api.ErrRange}, {"FREQ=YEARLY;BYYEARDAY=-367", 0, api.ErrRange}, {"FREQ=WEEKLY;BYMONTHDAY=1", 0, api.ErrRange}, {"FREQ=MONTHLY;BYYEARDAY=1", 0, api.ErrRange},
	} {
		holdParse(t, c.text, api.Rule{}, c.place, c.e)
	}
}

// numbersOf is a list of up to n numbers between lo and hi, mostly rising.
func numbersOf(r *rand.Rand, n, lo, hi int) []int {
	set := map[int]int{}
	for range r.Intn(n) {
		if x := lo + r.Intn(hi-lo+1); x != 0 || lo == 0 {
			set[x] = 0
		}
	}
	return slices.Sorted(maps.Keys(set))
}

// some is a rule made of random numbers, that mostly may be.
func some(r *rand.Rand) api.Rule {
	x := api.Rule{Freq: 1 + r.Intn(7), Interval: 1 + r.Intn(1000), Wkst: r.Intn(7)}
	switch r.Intn(3) {
	case 0:
		x.Count = r.Intn(4097)
	case 1:
		x.Ends, x.Until = true, first+r.Intn(last-first+1)
	}
	for _, f := range fields() {
		if r.Intn(4) == 0 {
			*f.of(&x) = numbersOf(r, 70, f.lo, f.hi)
		}
	}
	if r.Intn(2) == 0 {
		n := 0
		if r.Intn(2) == 0 {
			n = 53
		}
		for i := range 107 * 7 {
			if d := (api.Day{N: i/7 - 53, W: i % 7}); d.N >= -n && d.N <= n && r.Intn(10*n+2) < 8 {
				x.Day = append(x.Day, d)
			}
		}
	}
	return x
}

func TestP5_4Random(t *testing.T) {
	r := rand.New(rand.NewSource(54))
	good := 0
	for range 50000 {
		x := some(r)
		ok := may(x)
		holdMay(t, x, ok)
		if ok {
			good++
		}
	}
	if good < 2000 {
		t.Errorf("only %d rules that may be", good)
	}
}

// What is read, and printed, is read as the same, of texts put together at
// random from pieces that may stand.
func TestP5_4Texts(t *testing.T) {
	r := rand.New(rand.NewSource(55))
	pieces := []string{"FREQ=YEARLY", "FREQ=MONTHLY", "FREQ=HOURLY", "INTERVAL=1", "INTERVAL=7", "COUNT=0", "COUNT=9", "UNTIL=20300101T000000", "BYMONTH=3,1,3", "BYWEEKNO=2,-2", "BYYEARDAY=9,10,-9", "BYMONTHDAY=31,-1,1", "BYDAY=SU,MO,SU", "BYDAY=1MO,-1MO,WE", "BYHOUR=12,0", "BYMINUTE=30,30", "BYSECOND=0", "BYSETPOS=3,-3", "WKST=MO", "WKST=TH"}
	good := 0
	for range 100000 {
		r.Shuffle(len(pieces), func(i, j int) { pieces[i], pieces[j] = pieces[j], pieces[i] })
		s := strings.Join(pieces[:1+r.Intn(6)], ";")
		x, at, e := Parse(s)
		if e != api.OK {
			if !same(x, api.Rule{}) || e != api.ErrForm && at != 0 {
				t.Fatalf("Parse(%q) = %+v, %d, %d", s, x, at, e)
			}
			continue
		}
		good++
		if !may(x) {
			t.Fatalf("Parse(%q) = %+v", s, x)
		}
		text, e := Print(x)
		if e != api.OK {
			t.Fatalf("Print(%+v): %d", x, e)
		}
		holdBack(t, x, text)
	}
	if good < 1000 {
		t.Errorf("only %d texts that are rules", good)
	}
}

// others holds functions that change each field of a rule, lists in length
// and in each number.
func others() []func(r *api.Rule) {
	all := []func(r *api.Rule){
		func(r *api.Rule) { r.Freq++ }, func(r *api.Rule) { r.Interval++ }, func(r *api.Rule) { r.Count++ }, func(r *api.Rule) { r.Until++ }, func(r *api.Rule) { r.Wkst++ }, func(r *api.Rule) { r.Ends = !r.Ends },
		func(r *api.Rule) { r.Freq = math.MinInt }, func(r *api.Rule) { r.Until += 1 << 32 },
		func(r *api.Rule) { r.Day = append(r.Day, api.Day{}) },
		func(r *api.Rule) { r.Day = append([]api.Day{{N: -1}}, r.Day...) },
	}
	for _, f := range fields() {
		all = append(all,
			func(r *api.Rule) { *f.of(r) = append(slices.Clone(*f.of(r)), 0) },
			func(r *api.Rule) { *f.of(r) = append([]int{7}, *f.of(r)...) })
	}
	return all
}

func TestP5_2Same(t *testing.T) {
	week := api.Rule{Freq: 1, Interval: 1, Ends: true, Until: 5, Week: []int{1, 2}}
	wrong := api.Rule{Freq: -1, Interval: math.MinInt, Count: 9999, Until: math.MaxInt, Wkst: 8, Month: []int{13, 13, 0}, Day: []api.Day{{N: 99, W: 99}}}
	for i, r := range []api.Rule{{}, plain(4), full(), week, wrong} {
		if !Same(r, r) {
			t.Errorf("rule %d is not the same as itself", i)
		}
		for j, f := range others() {
			x := r
			f(&x)
			if Same(x, r) || Same(r, x) || !Same(x, x) {
				t.Errorf("rule %d, change %d: the same", i, j)
			}
		}
	}
	for i, f := range fields() {
		a, b := full(), full()
		for k := range *f.of(&a) {
			(*f.of(&b))[k]++
			if Same(a, b) {
				t.Errorf("list %d, number %d: the same", i, k)
			}
			(*f.of(&b))[k]--
		}
		*f.of(&b) = (*f.of(&b))[:len(*f.of(&b))/2]
		if len(*f.of(&a)) > 0 && (Same(a, b) || Same(b, a)) {
			t.Errorf("list %d, shorter: the same", i)
		}
		// nil and the empty list are the same.
		*f.of(&a), *f.of(&b) = nil, []int{}
		if !Same(a, b) || !Same(b, a) {
			t.Errorf("list %d, empty: not the same", i)
		}
		// The same numbers in another list are another rule.
		for j, g := range fields() {
			c, d := plain(1), plain(1)
			*f.of(&c), *g.of(&d) = []int{1}, []int{1}
			if Same(c, d) != (i == j) {
				t.Errorf("lists %d and %d: %t", i, j, Same(c, d))
			}
		}
	}
	for _, f := range []func(d *api.Day){func(d *api.Day) { d.N++ }, func(d *api.Day) { d.W++ }, func(d *api.Day) { d.N, d.W = d.W, d.N }} {
		for k := range full().Day {
			b := full()
			f(&b.Day[k])
			if Same(full(), b) {
				t.Errorf("day %d: the same", k)
			}
		}
	}
	a, b := plain(2), plain(2)
	a.Day = []api.Day{}
	if !Same(a, b) || !Same(b, a) {
		t.Error("no days: not the same")
	}
	if x, y := (api.Rule{Month: []int{1, 2}}), (api.Rule{Month: []int{2, 1}}); Same(x, y) {
		t.Error("another order: the same")
	}
}

// copyOf is the rule in memory of its own, with room behind each list that
// has numbers in it.
func copyOf(r api.Rule) api.Rule {
	for _, f := range fields() {
		*f.of(&r) = append(slices.Clone(*f.of(&r)), -7, 99)[:len(*f.of(&r))]
	}
	r.Day = append(slices.Clone(r.Day), api.Day{N: -7, W: 9})[:len(r.Day)]
	return r
}

// room is the rule with its lists drawn out to what lies behind them.
func room(r api.Rule) api.Rule {
	for _, f := range fields() {
		*f.of(&r) = (*f.of(&r))[:len(*f.of(&r))+2]
	}
	r.Day = r.Day[:len(r.Day)+1]
	return r
}

func TestP5_3HandedIn(t *testing.T) {
	week := api.Rule{Freq: 1, Interval: 1, Ends: true, Week: []int{-2, 1}}
	falling := full()
	falling.Month, falling.Day = []int{6, 5, 5}, []api.Day{{W: 3}, {W: 1}, {W: 1}}
	for i, r := range []api.Rule{full(), week, falling, plain(4)} {
		x := copyOf(r)
		behind := copyOf(room(x))
		ok := May(x)
		one, _ := Print(x)
		if ok != may(r) || ok && one != print(r) || !Same(x, r) || !Same(r, x) {
			t.Errorf("rule %d: what lies behind the lists is read", i)
		}
		if !same(x, r) || !same(room(x), behind) {
			t.Errorf("rule %d is changed: %+v", i, x)
		}
		// Changed behind the calls: nothing of it is kept.
		for _, f := range fields() {
			clear(*f.of(&x))
		}
		clear(x.Day)
		two, _ := Print(r)
		if May(r) != ok || one != two {
			t.Errorf("rule %d is kept: %q, %q", i, one, two)
		}
	}
}

// spoil writes into each list of the rule, and into its spare room.
func spoil(r api.Rule) {
	for _, f := range fields() {
		l := *f.of(&r)
		l = append(l, 77)
		l = l[:cap(l)]
		for i := range l {
			l[i] = 77
		}
	}
	d := append(r.Day, api.Day{N: 77, W: 77})
	d = d[:cap(d)]
	for i := range d {
		d[i] = api.Day{N: 77, W: 77}
	}
}

// only is the rule's one list, all others left out.
func only(r api.Rule, i int) api.Rule {
	var x api.Rule
	if i < 0 {
		x.Day = r.Day
		return x
	}
	f := fields()[i]
	*f.of(&x) = *f.of(&r)
	return x
}

func TestP5_3Answered(t *testing.T) {
	const text = "BYMONTH=1,2,1;BYYEARDAY=1,2,1;BYMONTHDAY=1,2,1;BYDAY=MO,TU,MO;BYHOUR=1,2,1;BYMINUTE=1,2,1;BYSECOND=1,2,1;BYSETPOS=1,2,1;FREQ=YEARLY"
	const week = "BYWEEKNO=1,2,1;BYDAY=MO,TU,MO;FREQ=YEARLY"
	for _, s := range []string{text, week} {
		want, _, _ := Parse(s)
		for i := -1; i < len(fields()); i++ {
			one, _, _ := Parse(s)
			two, _, _ := Parse(s)
			spoil(only(one, i))
			if !same(two, want) {
				t.Fatalf("two answers share the list %d", i)
			}
			// What is left of the same answer is as it was.
			for j := -1; j < len(fields()); j++ {
				if j != i && !same(only(one, j), only(want, j)) {
					t.Fatalf("the lists %d and %d of one answer share memory", i, j)
				}
			}
		}
		holdParse(t, s, want, 0, api.OK)
	}
}

package fold

import (
	"bytes"
	"math/rand"
	"regexp"
	"slices"
	"strings"
	"testing"
	"unsafe"

	"convoker/api"
)

// digits is a text of n bytes in which each stands elsewhere than ten others.
func digits(n int) string {
	return strings.Repeat("0123456789", n/10+1)[:n]
}

// texts calls f with each text of at most n of the letters.
func texts(letters string, n int, f func(s string)) {
	f("")
	if n == 0 {
		return
	}
	for _, c := range []byte(letters) {
		texts(letters, n-1, func(s string) { f(string([]byte{c}) + s) })
	}
}

var sound = regexp.MustCompile(`^(?:[ -~\n]|\r\n)*`)

// split is what Split answers, worked out by a pattern and by replacing.
func split(s string) ([]string, int, api.Errno) {
	if len(s) > 4096 {
		return nil, 0, api.ErrLong
	}
	if n := len(sound.FindString(s)); n < len(s) {
		return nil, n, api.ErrForm
	}
	if strings.HasPrefix(s, " ") {
		return nil, 0, api.ErrForm
	}
	if s == "" {
		return nil, 0, api.OK
	}
	s = strings.ReplaceAll(s, "\r\n", "\n")
	s = strings.TrimSuffix(s, "\n")
	return strings.Split(strings.ReplaceAll(s, "\n ", ""), "\n"), 0, api.OK
}

// join is what Join answers for lines that may be, written byte by byte.
func join(l []string) ([]byte, api.Errno) {
	var out []byte
	for _, line := range l {
		for i := range len(line) {
			if i >= 75 && (i-75)%74 == 0 {
				out = append(out, 13, 10, 32)
			}
			out = append(out, line[i])
		}
		out = append(out, 13, 10)
	}
	if len(out) > 4096 {
		return nil, api.ErrLong
	}
	return out, api.OK
}

func checkSplit(t *testing.T, s string, want []string, place int, err api.Errno) {
	t.Helper()
	got, at, e := Split([]byte(s))
	if !slices.Equal(got, want) || at != place || e != err {
		t.Fatalf("Split(%q) = %q, %d, %d, not %q, %d, %d", s, got, at, e, want, place, err)
	}
}

func checkJoin(t *testing.T, l []string, want []byte, err api.Errno) {
	t.Helper()
	got, e := Join(l)
	if !bytes.Equal(got, want) || e != err {
		t.Fatalf("Join(%.200q) = %.200q, %d, not %.200q, %d", l, got, e, want, err)
	}
}

func TestP4_1Known(t *testing.T) {
	for _, c := range []struct {
		text  string
		lines []string
	}{
		{"A:1\r\nB:2\n 3", []string{"A:1", "B:23"}},
		{"", nil},
		{"A", []string{"A"}},
		{"A\n", []string{"A"}},
		{"A\r\n", []string{"A"}},
		{"\n", []string{""}},
		{"\r\n", []string{""}},
		{"\n\n", []string{"", ""}},
		{"A\n\nB", []string{"A", "", "B"}},
		{"A\r\n\nB\n\r\n", []string{"A", "", "B", ""}},
		{"A\n B\r\n C\nD", []string{"ABC", "D"}},
		{"A\n  B", []string{"A B"}},
		{"A \n B ", []string{"A B "}},
		{"A\n ", []string{"A"}},
		{"A\n \n", []string{"A"}},
		{"A\n \n B", []string{"AB"}},
		{"A\n\n B", []string{"A", "B"}},
		{"A\n\n ", []string{"A", ""}},
		{"\n ", []string{""}},
		{"\n  ", []string{" "}},
		{"!~\n", []string{"!~"}},
	} {
		checkSplit(t, c.text, c.lines, 0, api.OK)
	}
}

func TestP4_1Faults(t *testing.T) {
	for _, c := range []struct {
		text  string
		place int
	}{
		{" ", 0}, {" A", 0}, {" \nA", 0}, {"  A\r\n", 0},
		{"\r", 0}, {"A\r", 1}, {"A\rB", 1}, {"A\r\r\n", 1}, {"A\r\n\r", 3}, {"A\n\r ", 2}, {"A\r \n", 1},
		{"\t", 0}, {"A\n\tB", 2}, {"A\x00\x00", 1}, {"A\n \x7f", 3}, {"\r\n\x1f", 2}, {"caf\xc3\xa9", 3}, {"A\rB\x00", 1}, {"A\x00\r", 1},
		// The byte that may not be is named ahead of the blank.
		{" \x00", 1}, {" A\r", 2},
	} {
		checkSplit(t, c.text, nil, c.place, api.ErrForm)
	}
}

// Each byte at the beginning, inside a line, behind one's end, behind a
// fold's blank, ahead of an end, and at the end of all.
func TestP4_1EveryByte(t *testing.T) {
	for c := range 256 {
		b := string([]byte{byte(c)})
		for _, s := range []string{b, b + "A", "A" + b + "B", "A\n" + b + "B", "A\r\n " + b + "B", "A" + b + "\n", "A" + b + "\r\n", "A\n" + b} {
			lines, place, e := split(s)
			checkSplit(t, s, lines, place, e)
		}
		lines, place, e := Split([]byte("AB" + b + "C"))
		switch {
		case c >= 32 && c <= 126:
			if !slices.Equal(lines, []string{"AB" + b + "C"}) || place != 0 || e != api.OK {
				t.Errorf("byte %d: %q, %d, %d", c, lines, place, e)
			}
		case c == 10:
			if !slices.Equal(lines, []string{"AB", "C"}) || place != 0 || e != api.OK {
				t.Errorf("byte %d: %q, %d, %d", c, lines, place, e)
			}
		default:
			if len(lines) > 0 || place != 2 || e != api.ErrForm {
				t.Errorf("byte %d: %q, %d, %d", c, lines, place, e)
			}
		}
	}
}

func TestP4_1EveryText(t *testing.T) {
	texts("A \n\r\x00", 7, func(s string) {
		lines, place, e := split(s)
		checkSplit(t, s, lines, place, e)
	})
	texts("A \n", 10, func(s string) {
		lines, place, e := split(s)
		checkSplit(t, s, lines, place, e)
		s = strings.ReplaceAll(s, "\n", "\r\n")
		checkSplit(t, s, lines, place, e)
	})
}

func TestP4_1Bounds(t *testing.T) {
	for n := 4000; n <= 4096; n++ {
		checkSplit(t, digits(n), []string{digits(n)}, 0, api.OK)
	}
	checkSplit(t, strings.Repeat("\n", 4096), make([]string, 4096), 0, api.OK)
	checkSplit(t, strings.Repeat("\r\n", 2048), make([]string, 2048), 0, api.OK)
	checkSplit(t, "A"+strings.Repeat("\n ", 2047)+"B", []string{"AB"}, 0, api.OK)
	checkSplit(t, digits(4095)+"\x00", nil, 4095, api.ErrForm)
	checkSplit(t, digits(4095)+"\r", nil, 4095, api.ErrForm)
	for _, n := range []int{4097, 4098, 8192, 1 << 20} {
		checkSplit(t, digits(n), nil, 0, api.ErrLong)
		checkSplit(t, strings.Repeat("\n", n), nil, 0, api.ErrLong)
		// Too long is named ahead of what may not be.
		checkSplit(t, digits(9)+"\x00"+digits(n), nil, 0, api.ErrLong)
		checkSplit(t, " "+digits(n), nil, 0, api.ErrLong)
	}
}

// A text that begins rightly, or as a right one does, of many lines.
func TestP4_1ManyLines(t *testing.T) {
	r := rand.New(rand.NewSource(4))
	for range 3000 {
		b := []byte("A")
		for range r.Intn(1500) {
			b = append(b, []string{"A", "b:", "; ", "\n", "\r\n", "\n ", "\r\n ", "~"}[r.Intn(8)]...)
		}
		if r.Intn(3) == 0 {
			b[r.Intn(len(b))] = byte(r.Intn(256))
		}
		lines, place, e := split(string(b))
		checkSplit(t, string(b), lines, place, e)
	}
}

func TestP4_2Known(t *testing.T) {
	d := digits(300)
	for _, c := range []struct {
		lines []string
		text  string
	}{
		{nil, ""},
		{[]string{}, ""},
		{[]string{"A"}, "A\r\n"},
		{[]string{"A:1", "B:23"}, "A:1\r\nB:23\r\n"},
		{[]string{"A ", "~  !"}, "A \r\n~  !\r\n"},
		{[]string{d[:74]}, d[:74] + "\r\n"},
		{[]string{d[:75]}, d[:75] + "\r\n"},
		{[]string{d[:76]}, d[:75] + "\r\n " + d[75:76] + "\r\n"},
		{[]string{d[:149], "B"}, d[:75] + "\r\n " + d[75:149] + "\r\nB\r\n"},
		{[]string{d[:150], "B"}, d[:75] + "\r\n " + d[75:149] + "\r\n " + d[149:150] + "\r\nB\r\n"},
		{[]string{d[:223]}, d[:75] + "\r\n " + d[75:149] + "\r\n " + d[149:223] + "\r\n"},
		{[]string{d[:224]}, d[:75] + "\r\n " + d[75:149] + "\r\n " + d[149:223] + "\r\n " + d[223:224] + "\r\n"},
	} {
		checkJoin(t, c.lines, []byte(c.text), api.OK)
	}
}

func TestP4_2Faults(t *testing.T) {
	for _, s := range []string{"", " ", " A", "  ", "A\n", "\nA", "A\r\nB", "A\r", "\r\n", "\t", "A\tB", "\x00", "caf\xc3\xa9"} {
		checkJoin(t, []string{s}, nil, api.ErrForm)
		checkJoin(t, []string{"A", s}, nil, api.ErrForm)
		checkJoin(t, []string{s, "A"}, nil, api.ErrForm)
		// What may not be is named ahead of too long, wherever it stands.
		checkJoin(t, []string{digits(5000), s}, nil, api.ErrForm)
		checkJoin(t, append(slices.Repeat([]string{"A"}, 1366), s), nil, api.ErrForm)
	}
	checkJoin(t, []string{digits(5000) + "\x00"}, nil, api.ErrForm)
	for c := range 256 {
		b := string([]byte{byte(c)})
		for _, s := range []string{"A" + b, "A" + b + "B", digits(80) + b + "A"} {
			if c < 32 || c > 126 {
				checkJoin(t, []string{s}, nil, api.ErrForm)
			} else {
				want, _ := join([]string{s})
				checkJoin(t, []string{s}, want, api.OK)
			}
		}
		if c > 32 && c <= 126 {
			checkJoin(t, []string{b}, []byte(b+"\r\n"), api.OK)
		} else {
			checkJoin(t, []string{b}, nil, api.ErrForm)
		}
	}
}

// A line of each length, alone and between others, past the bound too.
func TestP4_2EveryLength(t *testing.T) {
	for n := 1; n <= 4200; n++ {
		for _, l := range [][]string{{digits(n)}, {"A", digits(n), "B"}, {digits(80), digits(n)}} {
			want, e := join(l)
			checkJoin(t, l, want, e)
		}
	}
}

func TestP4_2Bounds(t *testing.T) {
	// 75 + 52*74 + 12 bytes, 53 folds of 3, and the end: 4096.
	if b, e := Join([]string{digits(3935)}); len(b) != 4096 || e != api.OK {
		t.Errorf("Join of 3935 bytes: %d bytes, %d", len(b), e)
	}
	checkJoin(t, []string{digits(3936)}, nil, api.ErrLong)
	short := slices.Repeat([]string{"A"}, 1364)
	if b, e := Join(append(short, "AB")); len(b) != 4096 || e != api.OK {
		t.Errorf("Join of 1365 lines: %d bytes, %d", len(b), e)
	}
	checkJoin(t, append(short, "ABC"), nil, api.ErrLong)
	checkJoin(t, append(short, "A", "A"), nil, api.ErrLong)
	checkJoin(t, []string{digits(4094)}, nil, api.ErrLong)
	checkJoin(t, []string{digits(4097)}, nil, api.ErrLong)
	checkJoin(t, []string{digits(1 << 24)}, nil, api.ErrLong)
	checkJoin(t, slices.Repeat([]string{"A"}, 1<<20), nil, api.ErrLong)
	checkJoin(t, slices.Repeat([]string{digits(1 << 20)}, 1<<8), nil, api.ErrLong)
}

func TestP4_3Known(t *testing.T) {
	for _, c := range []struct {
		line, name, params, value string
		ok                        bool
	}{
		{"DTSTART;TZID=1:20260101T000000", "DTSTART", "TZID=1", "20260101T000000", true},
		{"A:1", "A", "", "1", true},
		{"A:", "A", "", "", true},
		{":", "", "", "", true},
		{":1", "", "", "1", true},
		{"A;:1", "A", "", "1", true},
		{";:", "", "", "", true},
		{";x:y", "", "x", "y", true},
		{"A;b;c:d", "A", "b;c", "d", true},
		{"A;;:d", "A", ";", "d", true},
		{"A:b;c", "A", "", "b;c", true},
		{"A:b:c", "A", "", "b:c", true},
		{"A;b:c:d;e", "A", "b", "c:d;e", true},
		{`A;b="c:d":e`, "A", `b="c`, `d":e`, true},
		{" a ; b : c ", " a ", " b ", " c ", true},
		{"\xff\n:\x00", "\xff\n", "", "\x00", true},
		{"", "", "", "", false},
		{"A", "", "", "", false},
		{";", "", "", "", false},
		{"A;b=c", "", "", "", false},
	} {
		name, params, value, ok := Name(c.line)
		if name != c.name || params != c.params || value != c.value || ok != c.ok {
			t.Errorf("Name(%q) = %q, %q, %q, %v", c.line, name, params, value, ok)
		}
	}
}

func TestP4_3EveryText(t *testing.T) {
	whole := regexp.MustCompile(`(?s)^([^:;]*)(?:;([^:]*))?:(.*)$`)
	texts("A:; \x80\n", 7, func(s string) {
		want := [4]string{}
		m := whole.FindStringSubmatch(s)
		copy(want[:], m)
		name, params, value, ok := Name(s)
		if name != want[1] || params != want[2] || value != want[3] || ok != (m != nil) {
			t.Fatalf("Name(%q) = %q, %q, %q, %v", s, name, params, value, ok)
		}
	})
}

func TestP4_4Split(t *testing.T) {
	// Behind the length of b stands what would make another answer.
	for _, c := range []struct {
		text  string
		n     int
		lines []string
		place int
		e     api.Errno
	}{
		{"A\r\nB", 2, nil, 1, api.ErrForm},
		{"A\n B", 2, []string{"A"}, 0, api.OK},
		{"AB\x00", 2, []string{"AB"}, 0, api.OK},
		{"A", 0, nil, 0, api.OK},
	} {
		b := []byte(c.text)
		got, at, e := Split(b[:c.n])
		if !slices.Equal(got, c.lines) || at != c.place || e != c.e || string(b) != c.text {
			t.Errorf("Split of %d of %q = %q, %d, %d", c.n, c.text, got, at, e)
		}
	}
	b := []byte("A:1\r\nB:2\n 3\nC")
	want := []string{"A:1", "B:23", "C"}
	one, _, _ := Split(b)
	two, _, _ := Split(b)
	if string(b) != "A:1\r\nB:2\n 3\nC" {
		t.Errorf("Split has changed what it was handed: %q", b)
	}
	clear(b)
	if !slices.Equal(one, want) {
		t.Errorf("Split has kept what it was handed: %q", one)
	}
	clear(append(one, "D")[:cap(one)])
	clear(one)
	if !slices.Equal(two, want) {
		t.Errorf("two lists of Split share memory: %q", two)
	}
}

func TestP4_4Join(t *testing.T) {
	all := []string{"A:1", digits(80), " "}
	l := all[:2]
	want, _ := join(l)
	one, e := Join(l)
	two, _ := Join(l)
	if !bytes.Equal(one, want) || e != api.OK || !slices.Equal(all, []string{"A:1", digits(80), " "}) {
		t.Errorf("Join(%q) = %q, %d", all, one, e)
	}
	l[0], l[1] = "X", "Y"
	clear(append(one, 'Z')[:cap(one)])
	clear(one)
	if !bytes.Equal(two, want) {
		t.Errorf("two lists of Join share memory: %q", two)
	}
	again, _ := Join(all[:1])
	if string(again) != "X\r\n" {
		t.Errorf("Join has kept what it was handed: %q", again)
	}
}

// shares tells whether a piece of a text stands in that text's own memory.
func shares(piece, text string) bool {
	if piece == "" {
		return false
	}
	at, lo := uintptr(unsafe.Pointer(unsafe.StringData(piece))), uintptr(unsafe.Pointer(unsafe.StringData(text)))
	return at >= lo && at < lo+uintptr(len(text))
}

func TestP4_4Name(t *testing.T) {
	line := strings.Clone("DTSTART;TZID=1:20260101T000000")
	name, params, value, _ := Name(line)
	for _, s := range []string{name, params, value} {
		if shares(s, line) {
			t.Errorf("%q of Name is no new memory", s)
		}
	}
}

// some is a line that may be, of at most n bytes, of blanks for the most part.
func some(r *rand.Rand, n int) string {
	b := []byte{byte(33 + r.Intn(94))}
	for range r.Intn(n) {
		b = append(b, []byte{' ', ' ', ':', byte(32 + r.Intn(95))}[r.Intn(4)])
	}
	return string(b)
}

func checkBack(t *testing.T, l []string) {
	t.Helper()
	b, e := Join(l)
	want, f := join(l)
	if !bytes.Equal(b, want) || e != f {
		t.Fatalf("Join(%q) = %q, %d", l, b, e)
	}
	if e != api.OK {
		return
	}
	back, at, e := Split(b)
	if !slices.Equal(back, l) || at != 0 || e != api.OK {
		t.Fatalf("Split of Join(%q) = %q, %d, %d", l, back, at, e)
	}
	for s := range strings.SplitSeq(string(b), "\r\n") {
		if len(s) > 75 {
			t.Fatalf("Join(%q) has a line of %d bytes", l, len(s))
		}
	}
}

func TestP4_5Back(t *testing.T) {
	checkBack(t, nil)
	for n := 1; n <= 3935; n++ {
		checkBack(t, []string{digits(n)})
		checkBack(t, []string{"A" + strings.Repeat(" ", n-1)})
	}
	r := rand.New(rand.NewSource(5))
	for range 5000 {
		var l []string
		for range r.Intn(20) {
			l = append(l, some(r, 1+r.Intn(400)))
		}
		checkBack(t, l)
	}
	texts("A~ ", 5, func(s string) {
		checkBack(t, []string{"B" + s, digits(73) + s, "C", digits(147) + s + "D"})
	})
}

package frame

import (
	"bytes"
	"hash/crc32"
	"math"
	"math/rand"
	"slices"
	"testing"

	"convoker/api"
)

// lengths are those of records at the edges, and some between.
var lengths = []int{0, 1, 2, 3, 4, 5, 6, 7, 8, 15, 16, 17, 100, 254, 255, 256, 257, 258, 511, 512, 513, 1000, 4095, 4096, 4097, 8190, 8191, 8192}

// random is n bytes of the source.
func random(r *rand.Rand, n int) []byte {
	p := make([]byte, n)
	r.Read(p)
	return p
}

// byBits is the sum by a long division, a bit at a time: a second way.
func byBits(b []byte) uint32 {
	left := uint32(math.MaxUint32)
	for _, c := range b {
		for bit := range 8 {
			odd := left&1 != uint32(c>>bit)&1
			left >>= 1
			if odd {
				left ^= 0xEDB88320
			}
		}
	}
	return math.MaxUint32 - left
}

// framed is a record's bytes put together plainly: a length that may be a
// wrong one, the sum of these two bytes and of p, and p.
func framed(length int, p []byte) []byte {
	two := []byte{byte(length / 256), byte(length % 256)}
	n := byBits(slices.Concat(two, p))
	four := []byte{byte(n / (1 << 24)), byte(n / (1 << 16) % 256), byte(n / 256 % 256), byte(n % 256)}
	return slices.Concat(two, four, p)
}

// reads is what Get answers, worked out plainly.
func reads(b []byte, at int) ([]byte, int, api.Errno) {
	if at < 0 || at > len(b) {
		return nil, 0, api.ErrRange
	}
	if len(b)-at < 6 {
		return nil, 0, api.ErrShort
	}
	length := int(b[at])*256 + int(b[at+1])
	if length > 8192 {
		return nil, 0, api.ErrLong
	}
	if len(b)-at-6 < length {
		return nil, 0, api.ErrShort
	}
	end := at + 6 + length
	if !bytes.Equal(b[at:end], framed(length, b[at+6:end])) {
		return nil, 0, api.ErrSum
	}
	return b[at+6 : end], end, api.OK
}

func put(t *testing.T, p []byte) []byte {
	t.Helper()
	b, e := Put(p)
	if e != api.OK {
		t.Fatalf("Put of %d bytes: %d", len(p), e)
	}
	return b
}

// got holds what Get answers where there is a record.
func got(t *testing.T, b []byte, at int, want []byte, last int) {
	t.Helper()
	p, end, e := Get(b, at)
	if !bytes.Equal(p, want) || end != last || e != api.OK {
		t.Fatalf("Get of %d bytes at %d: % x, %d, %d, not % x, %d", len(b), at, p, end, e, want, last)
	}
}

// refused holds that Get answers the error, and nothing beside it.
func refused(t *testing.T, b []byte, at int, want api.Errno) {
	t.Helper()
	if p, end, e := Get(b, at); p != nil || end != 0 || e != want {
		t.Fatalf("Get of %d bytes at %d: % x, %d, %d, not %d", len(b), at, p, end, e, want)
	}
}

// scanned holds what Scan answers.
func scanned(t *testing.T, b []byte, want [][]byte, last int) {
	t.Helper()
	l, end := Scan(b)
	if !slices.EqualFunc(l, want, bytes.Equal) || end != last {
		t.Fatalf("Scan of %d bytes: %d records, end %d, not %d, %d", len(b), len(l), end, len(want), last)
	}
}

func TestP13_1SumKnown(t *testing.T) {
	for _, c := range []struct {
		text string
		want uint32
	}{
		{"", 0}, {"\x00", 0xD202EF8D}, {"\xff", 0xFF000000}, {"\xff\xff\xff\xff", 0xFFFFFFFF}, {"\x00\x00", 0x41D912FF},
		{"a", 0xE8B7BE43}, {"abc", 0x352441C2}, {"123456789", 0xCBF43926},
		{"The quick brown fox jumps over the lazy dog", 0x414FA339},
	} {
		if n := Sum([]byte(c.text)); n != c.want {
			t.Errorf("Sum(%q): %08X, not %08X", c.text, n, c.want)
		}
	}
	if n := Sum(nil); n != 0 {
		t.Errorf("Sum(nil): %08X", n)
	}
}

// holdSum holds a sum against two other ways.
func holdSum(t *testing.T, b []byte) {
	t.Helper()
	if n, bits, lib := Sum(b), byBits(b), crc32.ChecksumIEEE(b); n != bits || n != lib {
		t.Fatalf("Sum(% x): %08X, not %08X or %08X", b, n, bits, lib)
	}
}

// All texts of one byte and of two, and random ones of many lengths.
func TestP13_1SumTexts(t *testing.T) {
	for a := range 256 {
		holdSum(t, []byte{byte(a)})
		for b := range 256 {
			holdSum(t, []byte{byte(a), byte(b)})
		}
	}
	r := rand.New(rand.NewSource(131))
	for n := range 600 {
		holdSum(t, random(r, n))
	}
	for _, n := range []int{8191, 8192, 8193, 8194, 65535, 65536, 65537, 1 << 20} {
		holdSum(t, random(r, n))
		holdSum(t, make([]byte, n))
		holdSum(t, bytes.Repeat([]byte{255}, n))
	}
}

func TestP13_1PutExample(t *testing.T) {
	n := Sum([]byte{0, 0})
	want := []byte{0, 0, byte(n >> 24), byte(n >> 16), byte(n >> 8), byte(n)}
	for _, none := range [][]byte{nil, {}} {
		if b := put(t, none); !bytes.Equal(b, want) || !bytes.Equal(b, []byte{0, 0, 0x41, 0xD9, 0x12, 0xFF}) {
			t.Errorf("Put(none): % x, not % x", b, want)
		}
	}
}

// Each length that a record may have.
func TestP13_1PutLengths(t *testing.T) {
	r := rand.New(rand.NewSource(132))
	all := random(r, api.MaxFrame)
	for n := 0; n <= api.MaxFrame; n++ {
		b := put(t, all[:n])
		if len(b) != n+6 || int(b[0]) != n/256 || int(b[1]) != n%256 || !bytes.Equal(b[6:], all[:n]) {
			t.Fatalf("Put of %d bytes: %d bytes, % x", n, len(b), b[:6])
		}
		if n%61 == 0 && !bytes.Equal(b, framed(n, all[:n])) {
			t.Fatalf("Put of %d bytes: % x, not % x", n, b[:6], framed(n, all[:n])[:6])
		}
	}
	for _, n := range lengths {
		if b := put(t, all[:n]); !bytes.Equal(b, framed(n, all[:n])) {
			t.Fatalf("Put of %d bytes: % x, not % x", n, b[:6], framed(n, all[:n])[:6])
		}
	}
}

func TestP13_1PutLong(t *testing.T) {
	for _, n := range []int{8193, 8194, 8448, 16384, 65535, 65536, 65537, 65536 + 8192, 1 << 20} {
		if b, e := Put(make([]byte, n)); b != nil || e != api.ErrLong {
			t.Errorf("Put of %d bytes: %d bytes, %d", n, len(b), e)
		}
	}
}

func TestP13_2GetLengths(t *testing.T) {
	r := rand.New(rand.NewSource(133))
	for _, n := range lengths {
		p := random(r, n)
		b := framed(n, p)
		got(t, b, 0, p, n+6)
		got(t, slices.Concat([]byte{7}, b, []byte{8, 9}), 1, p, n+7)
		got(t, slices.Concat(b, b), n+6, p, 2*n+12)
	}
}

func TestP13_2GetRange(t *testing.T) {
	whole := framed(3, []byte{1, 2, 3})
	for n := range len(whole) + 1 {
		b := whole[:n]
		for _, at := range []int{math.MinInt, math.MinInt + 1, -1 << 32, -1 << 31, -9, -6, -2, -1, n + 1, n + 2, n + 6, n + 9, 1 << 31, 1 << 32, math.MaxInt - 6, math.MaxInt - 1, math.MaxInt} {
			refused(t, b, at, api.ErrRange)
		}
		refused(t, b, n, api.ErrShort) // the end is a place, at which nothing stands
	}
	refused(t, nil, 0, api.ErrShort)
	refused(t, nil, 1, api.ErrRange)
	refused(t, nil, -1, api.ErrRange)
}

// The six bytes, or those behind them, are not all there.
func TestP13_2GetShort(t *testing.T) {
	r := rand.New(rand.NewSource(134))
	for _, n := range []int{0, 1, 2, 5, 6, 7, 300} {
		b := framed(n, random(r, n))
		for cut := range b {
			refused(t, b[:cut], 0, api.ErrShort)
			refused(t, slices.Concat(b, b[:cut]), len(b), api.ErrShort)
		}
	}
	b := framed(8192, make([]byte, 8192))
	for _, cut := range []int{5, 6, 7, 8191, 8192, 8197} {
		refused(t, b[:cut], 0, api.ErrShort)
	}
	// A wrong sum is not told of before all bytes are there.
	refused(t, []byte{0, 2, 0, 0, 0, 0, 1}, 0, api.ErrShort)
	refused(t, []byte{32, 0, 0, 0, 0, 0}, 0, api.ErrShort)
}

// Each length above the greatest: ErrLong, be the rest there or not, and be
// the sum right or not; but ErrShort where the six bytes aren't all there.
func TestP13_2GetLong(t *testing.T) {
	for n := api.MaxFrame + 1; n < 1<<16; n++ {
		b := []byte{byte(n >> 8), byte(n), 0, 0, 0, 0, 0}
		refused(t, b, 0, api.ErrLong)
		refused(t, b[:6], 0, api.ErrLong)
		refused(t, b[:5], 0, api.ErrShort)
	}
	for _, n := range []int{8193, 8194, 8448, 16384, 32768, 65535} {
		b := framed(n, make([]byte, n))
		for _, cut := range []int{6, 7, n, n + 5, n + 6} {
			refused(t, b[:cut], 0, api.ErrLong)
		}
		b[2]++
		refused(t, b, 0, api.ErrLong)
		for cut := range 6 {
			refused(t, b[:cut], 0, api.ErrShort)
		}
	}
}

// A sum of anything but of the length and of the bytes is refused.
func TestP13_2GetSum(t *testing.T) {
	p := []byte{1, 2, 3}
	right := framed(3, p)
	for _, n := range []uint32{0, math.MaxUint32, Sum(p), Sum([]byte{0, 3}), Sum([]byte{3, 0, 1, 2, 3}), ^Sum([]byte{0, 3, 1, 2, 3}), Sum([]byte{0, 3, 1, 2, 3}) + 1, Sum([]byte{1, 2, 3, 0, 3})} {
		b := slices.Concat([]byte{0, 3, byte(n >> 24), byte(n >> 16), byte(n >> 8), byte(n)}, p)
		refused(t, b, 0, api.ErrSum)
		refused(t, append(b, right...), 0, api.ErrSum)
		scanned(t, slices.Concat(right, b, right), [][]byte{p}, 9)
	}
	turned := slices.Clone(right)
	slices.Reverse(turned[2:6])
	refused(t, turned, 0, api.ErrSum)
	// All bytes 0, as a file may be behind a crash: no record.
	refused(t, make([]byte, 64), 0, api.ErrSum)
	refused(t, make([]byte, 6), 0, api.ErrSum)
}

// Random bytes with records among them: each place, and those beside them,
// against the plain way.
func TestP13_2GetPlaces(t *testing.T) {
	r := rand.New(rand.NewSource(135))
	kinds := map[api.Errno]int{}
	for range 3000 {
		var b []byte
		for range r.Intn(5) {
			n := r.Intn(12)
			f := framed(n, random(r, n))
			switch r.Intn(5) {
			case 0:
				f = f[:r.Intn(len(f)+1)]
			case 1:
				f[r.Intn(len(f))] ^= 1 << r.Intn(8)
			case 2:
				f = make([]byte, r.Intn(9))
			}
			b = append(b, f...)
		}
		for at := -2; at <= len(b)+2; at++ {
			want, last, e := reads(b, at)
			kinds[e]++
			if e == api.OK {
				got(t, b, at, want, last)
			} else {
				refused(t, b, at, e)
			}
		}
	}
	for _, e := range []api.Errno{api.OK, api.ErrRange, api.ErrShort, api.ErrLong, api.ErrSum} {
		if kinds[e] < 1000 {
			t.Errorf("only %d places answer %d", kinds[e], e)
		}
	}
}

// Scan goes on where Get ends, up to the first that it refuses, though whole
// ones stand behind.
func TestP13_2Scan(t *testing.T) {
	r := rand.New(rand.NewSource(136))
	for range 3000 {
		var b []byte
		for range r.Intn(8) {
			n := r.Intn(9) * r.Intn(9)
			f := framed(n, random(r, n))
			switch r.Intn(12) {
			case 0:
				f = f[:r.Intn(len(f))]
			case 1:
				f[r.Intn(len(f))] ^= 1 << r.Intn(8)
			case 2:
				f[0] = 255
			}
			b = append(b, f...)
		}
		var want [][]byte
		at := 0
		for {
			p, end, e := reads(b, at)
			if e != api.OK {
				break
			}
			want, at = append(want, p), end
		}
		scanned(t, b, want, at)
	}
}

func TestP13_2ScanEdges(t *testing.T) {
	for _, none := range [][]byte{nil, {}, {0}, {0, 0, 0x41, 0xD9, 0x12}, {0, 0, 0x41, 0xD9, 0x12, 0xFE}, make([]byte, 100), bytes.Repeat([]byte{255}, 100)} {
		if l, end := Scan(none); len(l) != 0 || end != 0 {
			t.Errorf("Scan(% x): %d records, end %d", none, len(l), end)
		}
	}
	empty := put(t, nil)
	scanned(t, empty, [][]byte{nil}, 6)
	scanned(t, bytes.Repeat(empty, 1000), make([][]byte, 1000), 6000)
	scanned(t, append(bytes.Repeat(empty, 1000), 0), make([][]byte, 1000), 6000)
	great := bytes.Repeat([]byte{5}, 8192)
	long := framed(8193, make([]byte, 8193))
	scanned(t, slices.Concat(put(t, great), empty, put(t, great), long, empty), [][]byte{great, nil, great}, 2*8198+6)
	scanned(t, slices.Concat(long, empty), nil, 0)
}

// tight is b, with other bytes behind its length, that must stay as they are.
func tight(b []byte, behind []byte) []byte {
	return append(slices.Clone(b), behind...)[:len(b)]
}

func TestP13_3Put(t *testing.T) {
	behind := []byte{91, 92, 93, 94, 95, 96, 97, 98, 99}
	for _, n := range lengths {
		p := bytes.Repeat([]byte{3}, n)
		in := tight(p, behind)
		b, other := put(t, in), put(t, in)
		want := framed(n, p)
		if !bytes.Equal(in[:n+len(behind)], slices.Concat(p, behind)) {
			t.Fatalf("Put of %d bytes changed what was handed in", n)
		}
		for i := range in {
			in[i] = 4
		}
		if !bytes.Equal(b, want) {
			t.Fatalf("Put of %d bytes keeps what was handed in", n)
		}
		spoil(b)
		if !bytes.Equal(other, want) || !bytes.Equal(put(t, p), want) {
			t.Fatalf("Put of %d bytes: one answer shows in another one", n)
		}
		if !bytes.Equal(in[n:n+len(behind)], behind) {
			t.Fatalf("Put of %d bytes: its answer shows behind what was handed in", n)
		}
	}
}

// spoil writes into all of the list's memory, spare room too.
func spoil(b []byte) {
	b = b[:cap(b)]
	for i := range b {
		b[i] = 0xEE
	}
}

// What stands behind the length is not there, even if it would make the
// record whole.
func TestP13_3Behind(t *testing.T) {
	for _, n := range []int{0, 1, 2, 30, 8192} {
		whole := framed(n, bytes.Repeat([]byte{8}, n))
		two := slices.Concat(whole, whole)
		for _, cut := range []int{0, 1, 2, 5, n, n + 5} {
			refused(t, two[:cut], 0, api.ErrShort)
			refused(t, two[:cut], cut+1, api.ErrRange)
			scanned(t, two[:cut], nil, 0)
			scanned(t, two[:len(whole)+cut], [][]byte{whole[6:]}, len(whole))
		}
		if b := put(t, whole[6:][:n/2]); !bytes.Equal(b, framed(n/2, whole[6:6+n/2])) {
			t.Fatalf("Put reads behind %d bytes", n/2)
		}
		if Sum(whole[:n]) != byBits(slices.Clone(whole[:n])) {
			t.Fatalf("Sum reads behind %d bytes", n)
		}
		if !bytes.Equal(two, slices.Concat(whole, whole)) {
			t.Fatal("what was handed in was changed")
		}
	}
}

func TestP13_3Get(t *testing.T) {
	for _, n := range lengths {
		p := bytes.Repeat([]byte{6}, n)
		b := slices.Concat(framed(n, p), framed(n, p))
		was := slices.Clone(b)
		one, _, _ := Get(b, 0)
		same, _, _ := Get(b, 0)
		next, _, _ := Get(b, n+6)
		spoil(one)
		one = append(one, 1, 2, 3)
		if !bytes.Equal(b, was) {
			t.Fatalf("%d bytes: a record shows in what was handed in", n)
		}
		for i := range b {
			b[i] = 7
		}
		if !bytes.Equal(same, p) || !bytes.Equal(next, p) || len(one) != n+3 {
			t.Fatalf("%d bytes: a record shows another one, or what was handed in", n)
		}
	}
}

func TestP13_3Scan(t *testing.T) {
	for _, n := range []int{0, 1, 5, 8, 60, 8192} {
		p := bytes.Repeat([]byte{6}, n)
		b := bytes.Repeat(framed(n, p), 5)
		was := slices.Clone(b)
		l, _ := Scan(b)
		other, _ := Scan(b)
		for i := range l {
			for j, q := range l {
				if j > i && !bytes.Equal(q, p) {
					t.Fatalf("%d bytes: record %d shows what was written into those ahead of it", n, j)
				}
			}
			spoil(l[i])
			l[i] = append(l[i], 1, 2, 3)
		}
		l = append(l[:0:cap(l)], nil, nil, nil, nil, nil)
		clear(l[:cap(l)])
		if !bytes.Equal(b, was) {
			t.Fatalf("%d bytes: a record shows in what was handed in", n)
		}
		for i := range b {
			b[i] = 7
		}
		for _, q := range other {
			if !bytes.Equal(q, p) {
				t.Fatalf("%d bytes: a record shows another one, or what was handed in", n)
			}
		}
		if len(other) != 5 {
			t.Fatalf("%d records", len(other))
		}
	}
}

func TestP13_3Sum(t *testing.T) {
	b := tight([]byte("123456789"), []byte("abc"))
	for range 3 {
		if n := Sum(b); n != 0xCBF43926 || string(b[:12]) != "123456789abc" {
			t.Fatalf("%08X, %s", n, b[:12])
		}
	}
}

// Records that were put, cut off anywhere: those that are whole are scanned.
func TestP13_4Cut(t *testing.T) {
	r := rand.New(rand.NewSource(137))
	for range 300 {
		var b []byte
		var in [][]byte
		ends := []int{0}
		for range r.Intn(7) {
			p := random(r, r.Intn(5)*r.Intn(12))
			b = append(b, put(t, p)...)
			in = append(in, p)
			ends = append(ends, len(b))
		}
		scanned(t, b, in, len(b))
		whole := 0
		for cut := range len(b) + 1 {
			if whole+1 < len(ends) && ends[whole+1] <= cut {
				whole++
			}
			scanned(t, b[:cut], in[:whole], ends[whole])
			scanned(t, slices.Clone(b[:cut]), in[:whole], ends[whole])
		}
	}
}

// Each bit of a record's sum, and of what stands behind it, turned.
func TestP13_4Turned(t *testing.T) {
	r := rand.New(rand.NewSource(138))
	for _, n := range []int{0, 1, 2, 3, 4, 5, 6, 7, 8, 31, 32, 33, 255, 256, 1024} {
		p := random(r, n)
		b := put(t, p)
		for i := 2; i < len(b); i++ {
			for bit := range 8 {
				b[i] ^= 1 << bit
				refused(t, b, 0, api.ErrSum)
				b[i] ^= 1 << bit
			}
		}
		got(t, b, 0, p, n+6)
	}
	p := random(r, 8192)
	b := put(t, p)
	for _, i := range []int{2, 3, 4, 5, 6, 7, 4096, 8196, 8197} {
		for bit := range 8 {
			b[i] ^= 1 << bit
			refused(t, b, 0, api.ErrSum)
			b[i] ^= 1 << bit
		}
	}
}

// A turned record ends the scan: those ahead of it are told.
func TestP13_4TurnedAmong(t *testing.T) {
	r := rand.New(rand.NewSource(139))
	for range 2000 {
		var b []byte
		var in [][]byte
		ends := []int{0}
		for range 1 + r.Intn(6) {
			p := random(r, r.Intn(20))
			b = append(b, put(t, p)...)
			in = append(in, p)
			ends = append(ends, len(b))
		}
		k := r.Intn(len(in))
		i := ends[k] + 2 + r.Intn(ends[k+1]-ends[k]-2)
		b[i] ^= 1 << r.Intn(8)
		refused(t, b, ends[k], api.ErrSum)
		scanned(t, b, in[:k], ends[k])
	}
}

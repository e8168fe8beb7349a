package disk

import (
	"bytes"
	"math"
	"math/rand"
	"slices"
	"testing"

	"convoker/api"
)

// far are numbers far below and far above what a file has.
var far = []int{math.MinInt, math.MinInt + 1, -1 << 32, -1 << 31, -1 << 30, 1 << 30, 1<<30 + 1, 1 << 31, 1 << 32, math.MaxInt - 1, math.MaxInt}

// cell is a byte, and whether a crash keeps it.
type cell struct {
	byte byte
	sure bool
}

// plain is a file as cells, each with its own mark: a second way of keeping a
// disk.
type plain struct {
	cells []cell
	room  int
}

func (p *plain) append(b []byte) api.Errno {
	all := slices.Clone(p.cells)
	for _, c := range b {
		all = append(all, cell{byte: c})
	}
	if len(all) > p.room {
		return api.ErrFull
	}
	p.cells = all
	return api.OK
}

func (p *plain) sync() {
	p.cells = slices.Clone(p.cells)
	for i := range p.cells {
		p.cells[i].sure = true
	}
}

func (p *plain) swap(b []byte) api.Errno {
	o := plain{room: p.room}
	e := o.append(b)
	if e == api.OK {
		o.sync()
		*p = o
	}
	return e
}

func (p *plain) cut(n int) bool {
	for i := range len(p.cells) + 1 {
		if i == n {
			p.cells = p.cells[:i:i]
			return true
		}
	}
	return false
}

func (p *plain) crash(keep int) {
	var left []cell
	for _, c := range p.cells {
		if !c.sure && keep <= 0 {
			break
		}
		if !c.sure {
			keep--
		}
		left = append(left, c)
	}
	p.cells = left
	p.sync()
}

func (p *plain) resize(room int) bool {
	if room < 0 || room > 1073741824 {
		return false
	}
	p.room = room
	return true
}

func (p *plain) bytes() []byte {
	var b []byte
	for _, c := range p.cells {
		b = append(b, c.byte)
	}
	return b
}

func (p *plain) synced() int {
	n := 0
	for _, c := range p.cells {
		if c.sure {
			n++
		}
	}
	return n
}

func made(t *testing.T, room int) *Disk {
	t.Helper()
	d, e := New(room)
	if d == nil || e != api.OK {
		t.Fatalf("New(%d): %v, %d", room, d, e)
	}
	return d
}

// of is a disk with room, whose file is sure, synced, and loose behind it.
func of(t *testing.T, room int, sure, loose []byte) *Disk {
	t.Helper()
	d := made(t, room)
	added(t, d, sure, api.OK)
	d.Sync()
	added(t, d, loose, api.OK)
	hold(t, d, slices.Concat(sure, loose), len(sure), room)
	return d
}

func added(t *testing.T, d *Disk, b []byte, want api.Errno) {
	t.Helper()
	if e := d.Append(b); e != want {
		t.Fatalf("Append of %d bytes: %d, not %d", len(b), e, want)
	}
}

func swapped(t *testing.T, d *Disk, b []byte, want api.Errno) {
	t.Helper()
	if e := d.Swap(b); e != want {
		t.Fatalf("Swap of %d bytes: %d, not %d", len(b), e, want)
	}
}

func cut(t *testing.T, d *Disk, n int, want bool) {
	t.Helper()
	if ok := d.Cut(n); ok != want {
		t.Fatalf("Cut(%d): %t, not %t", n, ok, want)
	}
}

func resized(t *testing.T, d *Disk, room int, want bool) {
	t.Helper()
	if ok := d.Resize(room); ok != want {
		t.Fatalf("Resize(%d): %t, not %t", room, ok, want)
	}
}

// hold holds what the disk tells.
func hold(t *testing.T, d *Disk, file []byte, synced, room int) {
	t.Helper()
	if b := d.Bytes(); !bytes.Equal(b, file) {
		t.Fatalf("Bytes: % x, not % x", b, file)
	}
	if n := d.Synced(); n != synced {
		t.Fatalf("Synced: %d of %d, not %d", n, len(file), synced)
	}
	if n := d.Room(); n != room {
		t.Fatalf("Room: %d, not %d", n, room)
	}
}

// like holds a disk against its plain one.
func like(t *testing.T, d *Disk, p *plain) {
	t.Helper()
	hold(t, d, p.bytes(), p.synced(), p.room)
}

// row is n bytes, first and those that follow it.
func row(first, n int) []byte {
	var b []byte
	for i := range n {
		b = append(b, byte(first+i))
	}
	return b
}

func TestP14_1Example(t *testing.T) {
	d := made(t, 5)
	added(t, d, []byte{1, 2}, api.OK)
	d.Sync()
	added(t, d, []byte{3, 4}, api.OK)
	added(t, d, []byte{5, 6}, api.ErrFull)
	d.Crash(1)
	hold(t, d, []byte{1, 2, 3}, 3, 5)
}

func TestP14_1NewRange(t *testing.T) {
	for _, room := range []int{-1, -2, -100, math.MinInt, math.MinInt + 1, -1 << 32, -1 << 31, -1 << 30, 1<<30 + 1, 1<<30 + 2, 1 << 31, 1 << 32, 1<<32 + 5, math.MaxInt} {
		if d, e := New(room); d != nil || e != api.ErrRange {
			t.Errorf("New(%d): %v, %d", room, d, e)
		}
	}
}

// Each room up to a thousand, and those at the upper end: an empty file.
func TestP14_1New(t *testing.T) {
	rooms := []int{1<<30 - 1, 1 << 30, 1 << 29, 1 << 20}
	for room := range 1001 {
		rooms = append(rooms, room)
	}
	for _, room := range rooms {
		d := made(t, room)
		hold(t, d, nil, 0, room)
		d.Sync()
		d.Crash(room)
		cut(t, d, 0, true)
		cut(t, d, 1, false)
		added(t, d, nil, api.OK)
		swapped(t, d, nil, api.OK)
		hold(t, d, nil, 0, room)
	}
}

// Each file of each room up to 8, synced to each place, and each length more.
func TestP14_1Append(t *testing.T) {
	for room := range 9 {
		for sure := range room + 1 {
			for loose := range room - sure + 1 {
				for more := range 12 {
					d := of(t, room, row(1, sure), row(50, loose))
					b := row(100, more)
					if sure+loose+more > room {
						added(t, d, b, api.ErrFull)
						b = nil
					} else {
						added(t, d, b, api.OK)
					}
					hold(t, d, slices.Concat(row(1, sure), row(50, loose), b), sure, room)
				}
			}
		}
	}
}

// What is refused leaves the room to what is less; none is room for no bytes.
func TestP14_1AppendFull(t *testing.T) {
	d := made(t, 3)
	added(t, d, row(1, 4), api.ErrFull)
	added(t, d, row(1, 2), api.OK)
	added(t, d, row(1, 2), api.ErrFull)
	added(t, d, row(3, 1), api.OK)
	for range 3 {
		added(t, d, []byte{9}, api.ErrFull)
		added(t, d, nil, api.OK)
		added(t, d, []byte{}, api.OK)
		hold(t, d, row(1, 3), 0, 3)
	}
	none := made(t, 0)
	added(t, none, nil, api.OK)
	added(t, none, []byte{0}, api.ErrFull)
	hold(t, none, nil, 0, 0)
}

// Each of the 256 bytes stands there as it was.
func TestP14_1Each(t *testing.T) {
	all := row(0, 256)
	d := made(t, 600)
	for _, c := range all {
		added(t, d, []byte{c}, api.OK)
	}
	hold(t, d, all, 0, 600)
	added(t, d, all, api.OK)
	hold(t, d, slices.Concat(all, all), 0, 600)
	swapped(t, d, all, api.OK)
	hold(t, d, all, 256, 600)
}

// Sync makes sure what is there, and nothing of what comes later.
func TestP14_1Sync(t *testing.T) {
	for sure := range 9 {
		for loose := range 9 {
			d := of(t, 20, row(1, sure), row(50, loose))
			file := slices.Concat(row(1, sure), row(50, loose))
			for range 2 {
				d.Sync()
				hold(t, d, file, sure+loose, 20)
			}
			added(t, d, row(100, 2), api.OK)
			hold(t, d, slices.Concat(file, row(100, 2)), sure+loose, 20)
			d.Crash(0)
			hold(t, d, file, sure+loose, 20)
		}
	}
}

// Each file of each room up to 7, and each length in its stead.
func TestP14_1Swap(t *testing.T) {
	for room := range 8 {
		for sure := range room + 1 {
			for loose := range room - sure + 1 {
				for n := range 11 {
					d := of(t, room, row(1, sure), row(50, loose))
					if n > room {
						swapped(t, d, row(100, n), api.ErrFull)
						hold(t, d, slices.Concat(row(1, sure), row(50, loose)), sure, room)
						continue
					}
					swapped(t, d, row(100, n), api.OK)
					hold(t, d, row(100, n), n, room)
					d.Crash(-5)
					hold(t, d, row(100, n), n, room)
				}
			}
		}
	}
}

// Each cut of each file of up to ten bytes, and those that are none.
func TestP14_1Cut(t *testing.T) {
	for sure := range 7 {
		for loose := range 5 {
			file := slices.Concat(row(1, sure), row(50, loose))
			for n := range len(file) + 1 {
				d := of(t, 12, row(1, sure), row(50, loose))
				cut(t, d, n, true)
				left := min(n, sure)
				hold(t, d, file[:n], left, 12)
				added(t, d, row(90, 2), api.OK)
				hold(t, d, slices.Concat(file[:n], row(90, 2)), left, 12)
				d.Crash(math.MaxInt)
				hold(t, d, slices.Concat(file[:n], row(90, 2)), n+2, 12)
			}
			d := of(t, 12, row(1, sure), row(50, loose))
			for _, n := range append([]int{-3, -2, -1, len(file) + 1, len(file) + 2, 12, 13}, far...) {
				cut(t, d, n, false)
				hold(t, d, file, sure, 12)
			}
		}
	}
}

// What a cut takes away doesn't come back, be it synced or cut again.
func TestP14_1CutGone(t *testing.T) {
	d := of(t, 9, row(1, 4), row(5, 4))
	cut(t, d, 6, true)
	cut(t, d, 7, false)
	cut(t, d, 6, true)
	cut(t, d, 2, true)
	hold(t, d, row(1, 2), 2, 9)
	cut(t, d, 3, false)
	d.Sync()
	d.Crash(9)
	hold(t, d, row(1, 2), 2, 9)
	added(t, d, row(60, 7), api.OK)
	hold(t, d, slices.Concat(row(1, 2), row(60, 7)), 2, 9)
}

// Each crash of each file of up to ten bytes.
func TestP14_2Crash(t *testing.T) {
	for sure := range 7 {
		for loose := range 5 {
			file := slices.Concat(row(1, sure), row(50, loose))
			for _, keep := range append([]int{-11, -7, -2, -1, 0, 1, 2, 3, 4, 5, 6, 7, 10, 12, math.MaxInt - sure, math.MaxInt - 5}, far...) {
				d := of(t, 12, row(1, sure), row(50, loose))
				d.Crash(keep)
				left := file[:sure]
				if keep >= loose {
					left = file
				} else if keep > 0 {
					left = file[:sure+keep]
				}
				hold(t, d, left, len(left), 12)
				d.Crash(0)
				hold(t, d, left, len(left), 12)
				added(t, d, row(90, 2), api.OK)
				hold(t, d, slices.Concat(left, row(90, 2)), len(left), 12)
			}
		}
	}
}

// Bytes tells the file whole, and as it is when it is asked.
func TestP14_2Bytes(t *testing.T) {
	d := made(t, 10)
	for n := range 11 {
		before := d.Bytes()
		hold(t, d, row(0, n), 0, 10)
		added(t, d, row(n, min(1, 10-n)), api.OK)
		if !bytes.Equal(before, row(0, n)) {
			t.Fatalf("Bytes of %d bytes: % x later", n, before)
		}
	}
}

func TestP14_2Resize(t *testing.T) {
	d := of(t, 7, row(1, 2), row(50, 3))
	file := slices.Concat(row(1, 2), row(50, 3))
	for _, room := range []int{-1, -2, -1 << 30, -1 << 31, -1 << 32, math.MinInt, math.MinInt + 1, 1<<30 + 1, 1<<30 + 2, 1 << 31, 1 << 32, 1<<32 + 3, math.MaxInt} {
		resized(t, d, room, false)
		hold(t, d, file, 2, 7)
	}
	for _, room := range []int{0, 1, 2, 3, 4, 5, 6, 7, 8, 1000, 1 << 29, 1<<30 - 1, 1 << 30, 0, 7} {
		resized(t, d, room, true)
		hold(t, d, file, 2, room)
	}
	added(t, d, row(90, 3), api.ErrFull)
	added(t, d, row(90, 2), api.OK)
	hold(t, d, slices.Concat(file, row(90, 2)), 2, 7)
}

// Each room ahead and behind: the new one bounds, what is there stays.
func TestP14_2ResizeBounds(t *testing.T) {
	for n := range 7 {
		for room := range 9 {
			for more := range 5 {
				d := of(t, 6, row(1, n), nil)
				resized(t, d, room, true)
				if n+more > room {
					added(t, d, row(90, more), api.ErrFull)
					hold(t, d, row(1, n), n, room)
				} else {
					added(t, d, row(90, more), api.OK)
					hold(t, d, slices.Concat(row(1, n), row(90, more)), n, room)
				}
				want := api.OK
				if more > room {
					want = api.ErrFull
				}
				swapped(t, d, row(70, more), want)
			}
		}
	}
}

// In a file longer than its room all goes on but what needs room.
func TestP14_2ResizeBelow(t *testing.T) {
	d := of(t, 9, row(1, 4), row(5, 4))
	resized(t, d, 3, true)
	added(t, d, nil, api.ErrFull)
	added(t, d, []byte{9}, api.ErrFull)
	swapped(t, d, row(1, 4), api.ErrFull)
	hold(t, d, row(1, 8), 4, 3)
	o := d.Copy()
	hold(t, o, row(1, 8), 4, 3)
	o.Sync()
	hold(t, o, row(1, 8), 8, 3)
	cut(t, o, 9, false)
	cut(t, o, 7, true)
	hold(t, o, row(1, 7), 7, 3)
	d.Crash(2)
	hold(t, d, row(1, 6), 6, 3)
	added(t, d, nil, api.ErrFull)
	cut(t, d, 3, true)
	added(t, d, nil, api.OK)
	added(t, d, []byte{9}, api.ErrFull)
	cut(t, d, 2, true)
	added(t, d, []byte{9}, api.OK)
	hold(t, d, []byte{1, 2, 9}, 2, 3)
	swapped(t, o, row(30, 3), api.OK)
	hold(t, o, row(30, 3), 3, 3)
}

// acts are what may befall a disk; each makes bytes that begin with mark.
var acts = []func(t *testing.T, d *Disk, p *plain, mark int){
	func(t *testing.T, d *Disk, p *plain, mark int) { added(t, d, nil, p.append(nil)) },
	func(t *testing.T, d *Disk, p *plain, mark int) { added(t, d, row(mark, 1), p.append(row(mark, 1))) },
	func(t *testing.T, d *Disk, p *plain, mark int) { added(t, d, row(mark, 3), p.append(row(mark, 3))) },
	func(t *testing.T, d *Disk, p *plain, mark int) { d.Sync(); p.sync() },
	func(t *testing.T, d *Disk, p *plain, mark int) { swapped(t, d, row(mark, 2), p.swap(row(mark, 2))) },
	func(t *testing.T, d *Disk, p *plain, mark int) { swapped(t, d, row(mark, 5), p.swap(row(mark, 5))) },
	func(t *testing.T, d *Disk, p *plain, mark int) { cut(t, d, 1, p.cut(1)) },
	func(t *testing.T, d *Disk, p *plain, mark int) {
		n := max(0, len(p.cells)-1)
		cut(t, d, n, p.cut(n))
	},
	func(t *testing.T, d *Disk, p *plain, mark int) { d.Crash(0); p.crash(0) },
	func(t *testing.T, d *Disk, p *plain, mark int) { d.Crash(2); p.crash(2) },
	func(t *testing.T, d *Disk, p *plain, mark int) { resized(t, d, 2, p.resize(2)) },
	func(t *testing.T, d *Disk, p *plain, mark int) { resized(t, d, 6, p.resize(6)) },
}

// Each row of five acts upon a disk of four bytes.
func TestP14_2Acts(t *testing.T) {
	many := len(acts)
	for code := range many * many * many * many * many {
		d, p := made(t, 4), &plain{room: 4}
		for i := range 5 {
			acts[code%many](t, d, p, 10*i+10)
			code /= many
		}
		like(t, d, p)
	}
}

// Random histories of a disk and of copies of it: each act on one of them
// stays its own, and each answer is the plain one's.
func TestP14_2Random(t *testing.T) {
	r := rand.New(rand.NewSource(142))
	for range 200 {
		room := r.Intn(60)
		l, p := []*Disk{made(t, room)}, []*plain{{room: room}}
		for range 150 {
			i := r.Intn(len(l))
			befall(t, r, l[i], p[i])
			if len(l) < 4 && r.Intn(20) == 0 {
				o := *p[i]
				l, p = append(l, l[i].Copy()), append(p, &o)
			}
			for k := range l {
				like(t, l[k], p[k])
			}
		}
	}
}

func befall(t *testing.T, r *rand.Rand, d *Disk, p *plain) {
	t.Helper()
	b := make([]byte, r.Intn(12))
	r.Read(b)
	n := r.Intn(75) - 7
	switch r.Intn(12) {
	case 0:
		d.Sync()
		p.sync()
	case 1:
		b = bytes.Repeat(b, 1+r.Intn(5))
		swapped(t, d, b, p.swap(b))
	case 2, 3:
		cut(t, d, n, p.cut(n))
	case 4:
		d.Crash(n / 4)
		p.crash(n / 4)
	case 5:
		resized(t, d, n, p.resize(n))
	default:
		added(t, d, b, p.append(b))
	}
}

// A copy has the same file, as much of it synced, and the same room; then each
// goes its own way.
func TestP14_2Copy(t *testing.T) {
	for sure := range 5 {
		for loose := range 5 {
			file := slices.Concat(row(1, sure), row(50, loose))
			for _, act := range acts {
				d := of(t, 10, row(1, sure), row(50, loose))
				o := d.Copy()
				hold(t, o, file, sure, 10)
				p := &plain{room: 10}
				p.append(row(1, sure))
				p.sync()
				p.append(row(50, loose))
				q := *p
				act(t, d, p, 100)
				hold(t, o, file, sure, 10)
				act(t, o, &q, 200)
				like(t, d, p)
				like(t, o, &q)
			}
		}
	}
}

// A copy and its disk share no spare room: what one appends, or lays behind a
// cut, the other doesn't show.
func TestP14_2CopyApart(t *testing.T) {
	d := made(t, 5000)
	for n := range 1500 {
		added(t, d, []byte{byte(n)}, api.OK)
	}
	cut(t, d, 1000, true)
	o := d.Copy()
	added(t, d, bytes.Repeat([]byte{1}, 300), api.OK)
	added(t, o, bytes.Repeat([]byte{2}, 300), api.OK)
	u := o.Copy()
	added(t, u, bytes.Repeat([]byte{3}, 50), api.OK)
	added(t, o, bytes.Repeat([]byte{4}, 60), api.OK)
	file := row(0, 1000)
	hold(t, d, slices.Concat(file, bytes.Repeat([]byte{1}, 300)), 0, 5000)
	hold(t, o, slices.Concat(file, bytes.Repeat([]byte{2}, 300), bytes.Repeat([]byte{4}, 60)), 0, 5000)
	hold(t, u, slices.Concat(file, bytes.Repeat([]byte{2}, 300), bytes.Repeat([]byte{3}, 50)), 0, 5000)
}

// spoil writes into all of the list's memory, spare room too.
func spoil(b []byte) {
	b = b[:cap(b)]
	for i := range b {
		b[i] = 0xEE
	}
}

// What is handed in is not kept: what becomes of it later the disk doesn't
// show.
func TestP14_3Kept(t *testing.T) {
	for _, n := range []int{0, 1, 2, 7, 8, 9, 64, 1000} {
		for _, spare := range []int{0, 9} {
			in := append(make([]byte, 0, n+spare), row(1, n)...)
			d, o, u := made(t, 3*n), made(t, 3*n), of(t, 3*n, row(7, n), row(8, n))
			added(t, d, in, api.OK)
			swapped(t, o, in, api.OK)
			added(t, u, in, api.OK)
			c := o.Copy()
			spoil(in)
			hold(t, d, row(1, n), 0, 3*n)
			hold(t, o, row(1, n), n, 3*n)
			hold(t, c, row(1, n), n, 3*n)
			hold(t, u, slices.Concat(row(7, n), row(8, n), row(1, n)), n, 3*n)
		}
	}
}

// What is handed in is not changed, nor is what lies behind it, by the call or
// by what the disk does later.
func TestP14_3In(t *testing.T) {
	for _, n := range []int{0, 1, 2, 7, 8, 9, 64, 1000} {
		for _, swap := range []bool{false, true} {
			all := slices.Concat(row(1, n), row(200, 9))
			d := made(t, 3*n+20)
			if swap {
				swapped(t, d, all[:n], api.OK)
			} else {
				added(t, d, all[:n], api.OK)
			}
			sure := d.Synced()
			added(t, d, []byte{77, 78}, api.OK)
			cut(t, d, n/2, true)
			added(t, d, []byte{79}, api.OK)
			hold(t, d, append(row(1, n/2), 79), min(sure, n/2), 3*n+20)
			d.Crash(0)
			d.Sync()
			if !bytes.Equal(all, slices.Concat(row(1, n), row(200, 9))) {
				t.Fatalf("%d bytes: what was handed in was changed", n)
			}
		}
	}
}

// What is refused is neither changed nor kept.
func TestP14_3Refused(t *testing.T) {
	all := row(1, 20)
	d := of(t, 6, row(60, 2), row(70, 3))
	for n := 2; n < 12; n++ {
		added(t, d, all[:n], api.ErrFull)
	}
	for n := 7; n < 12; n++ {
		swapped(t, d, all[:n], api.ErrFull)
	}
	if !bytes.Equal(all, row(1, 20)) {
		t.Fatalf("what was handed in: % x", all)
	}
	spoil(all)
	hold(t, d, slices.Concat(row(60, 2), row(70, 3)), 2, 6)
}

// What is answered is new memory: neither the disk shows what is written into
// it, nor a copy, nor another answer; nor does it show what befalls the disk.
func TestP14_3Out(t *testing.T) {
	for n := range 70 {
		d := of(t, 200, row(1, n/3), row(1+n/3, n-n/3))
		o := d.Copy()
		other, kept := d.Bytes(), d.Bytes()
		b := d.Bytes()
		spoil(b)
		_ = append(b, 1, 2, 3)
		_ = append(b[:0], 4, 5, 6)
		hold(t, d, row(1, n), n/3, 200)
		hold(t, o, row(1, n), n/3, 200)
		added(t, d, row(150, 5), api.OK)
		spoil(b)
		spoil(other)
		hold(t, d, slices.Concat(row(1, n), row(150, 5)), n/3, 200)
		cut(t, d, n/2, true)
		added(t, d, row(150, 90), api.OK)
		swapped(t, o, bytes.Repeat([]byte{9}, n), api.OK)
		if !bytes.Equal(kept, row(1, n)) {
			t.Fatalf("%d bytes: an answer shows what came later", n)
		}
	}
}

// A disk's own bytes may be handed in again.
func TestP14_3Again(t *testing.T) {
	d := of(t, 40, row(1, 3), row(4, 2))
	added(t, d, d.Bytes(), api.OK)
	hold(t, d, slices.Concat(row(1, 5), row(1, 5)), 3, 40)
	swapped(t, d, d.Bytes()[2:6], api.OK)
	hold(t, d, []byte{3, 4, 5, 1}, 4, 40)
	b := d.Bytes()
	added(t, d, b[:2], api.OK)
	swapped(t, d, d.Bytes(), api.OK)
	hold(t, d, []byte{3, 4, 5, 1, 3, 4}, 6, 40)
}

// Behind a crash the file is a beginning of what it was, no shorter than what
// was synced, whatever came ahead.
func TestP14_4(t *testing.T) {
	r := rand.New(rand.NewSource(144))
	for range 2000 {
		d, p := made(t, 50), &plain{room: 50}
		for range r.Intn(30) {
			befall(t, r, d, p)
		}
		was, sure, room := d.Bytes(), d.Synced(), d.Room()
		d.Crash(r.Intn(70) - 10)
		now := d.Bytes()
		if !bytes.HasPrefix(was, now) || len(now) < sure {
			t.Fatalf("% x, of it %d synced: % x", was, sure, now)
		}
		hold(t, d, now, len(now), room)
	}
}

// Many bytes, one by one, and a crash amid them.
func TestP14_4Many(t *testing.T) {
	const many = 300000
	d := made(t, many)
	for n := range many {
		added(t, d, []byte{byte(n / 7)}, api.OK)
		if n == many/3 {
			d.Sync()
		}
	}
	added(t, d, []byte{1}, api.ErrFull)
	var file []byte
	for n := range many {
		file = append(file, byte(n/7))
	}
	hold(t, d, file, many/3+1, many)
	o := d.Copy()
	d.Crash(many / 3)
	hold(t, d, file[:many/3*2+1], many/3*2+1, many)
	o.Crash(-1)
	hold(t, o, file[:many/3+1], many/3+1, many)
	great := bytes.Repeat(file, 100)
	resized(t, o, 1<<30, true)
	added(t, o, great, api.OK)
	hold(t, o, slices.Concat(file[:many/3+1], great), many/3+1, 1<<30)
}

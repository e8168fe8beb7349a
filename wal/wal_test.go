package wal

import (
	"bytes"
	"encoding/binary"
	"hash/crc32"
	"math"
	"math/rand"
	"slices"
	"testing"

	"convoker/api"
	"convoker/disk"
)

const most = 8192 // bytes of a record

// framed is the bytes of records in a file, one behind the other: a second way
// of writing them.
func framed(ps ...[]byte) []byte {
	var file []byte
	for _, p := range ps {
		b := binary.BigEndian.AppendUint16(nil, uint16(len(p)))
		n := crc32.ChecksumIEEE(slices.Concat(b, p))
		file = append(binary.BigEndian.AppendUint32(append(file, b...), n), p...)
	}
	return file
}

// plain is a log as lists: the records that are sure, those that a crash may
// cut, and the room for both.
type plain struct {
	sure, loose [][]byte
	room        int
}

func (p *plain) all() [][]byte {
	return slices.Concat(p.sure, p.loose)
}

func (p *plain) append(b []byte) api.Errno {
	if len(b) > most {
		return api.ErrLong
	}
	if len(framed(p.all()...))+6+len(b) > p.room {
		return api.ErrFull
	}
	p.loose = append(slices.Clone(p.loose), b)
	return api.OK
}

func (p *plain) sync() {
	p.sure, p.loose = p.all(), nil
}

func (p *plain) put(b []byte) api.Errno {
	e := p.append(b)
	if e == api.OK {
		p.sync()
	}
	return e
}

func (p *plain) checkpoint(ps [][]byte) api.Errno {
	n := 0
	for _, b := range ps {
		if len(b) > most {
			return api.ErrLong
		}
		n += 6 + len(b)
	}
	if n > p.room {
		return api.ErrFull
	}
	p.sure, p.loose = slices.Clone(ps), nil
	return api.OK
}

// crash is how many bytes an Open cuts behind a crash that keeps so many.
func (p *plain) crash(keep int) int {
	var left [][]byte
	keep = max(0, keep)
	for _, b := range p.loose {
		if keep < 6+len(b) {
			p.sure, p.loose = slices.Concat(p.sure, left), nil
			return keep
		}
		keep -= 6 + len(b)
		left = append(left, b)
	}
	p.sync()
	return 0
}

func made(t *testing.T, room int) *disk.Disk {
	t.Helper()
	d, e := disk.New(room)
	if e != api.OK {
		t.Fatalf("New(%d): %d", room, e)
	}
	return d
}

// file is a disk whose file is sure, synced, and loose behind it.
func file(t *testing.T, room int, sure, loose []byte) *disk.Disk {
	t.Helper()
	d := made(t, room)
	got(t, "Append", d.Append(sure), api.OK)
	d.Sync()
	got(t, "Append", d.Append(loose), api.OK)
	return d
}

// opened opens a log, and holds how many bytes that cut.
func opened(t *testing.T, d *disk.Disk, cut int) *Log {
	t.Helper()
	l, n := Open(d)
	if l == nil || n != cut {
		t.Fatalf("Open cut %d, not %d", n, cut)
	}
	if l.Disk() != d {
		t.Fatal("Disk: another one")
	}
	return l
}

// of is a log with room, of which the records sure are synced.
func of(t *testing.T, room int, sure, loose [][]byte) *Log {
	t.Helper()
	l := opened(t, file(t, room, framed(sure...), framed(loose...)), 0)
	hold(t, l, sure, loose, room)
	return l
}

func got(t *testing.T, what string, e, want api.Errno) {
	t.Helper()
	if e != want {
		t.Fatalf("%s: %d, not %d", what, e, want)
	}
}

func same(a, b [][]byte) bool { return slices.EqualFunc(a, b, bytes.Equal) }

// onDisk holds the disk's file, what of it is synced, and its room.
func onDisk(t *testing.T, d *disk.Disk, file []byte, synced, room int) {
	t.Helper()
	if b := d.Bytes(); !bytes.Equal(b, file) {
		t.Fatalf("the file has %d bytes, not %d: % x", len(b), len(file), b[:min(len(b), 99)])
	}
	if n := d.Synced(); n != synced {
		t.Fatalf("synced are %d bytes of %d, not %d", n, len(file), synced)
	}
	if n := d.Room(); n != room {
		t.Fatalf("the room is %d, not %d", n, room)
	}
}

// hold holds what the log tells, and what stands on its disk.
func hold(t *testing.T, l *Log, sure, loose [][]byte, room int) {
	t.Helper()
	all := slices.Concat(sure, loose)
	if r := l.Records(); !same(r, all) {
		t.Fatalf("Records: %d, not %d", len(r), len(all))
	}
	onDisk(t, l.Disk(), framed(all...), len(framed(sure...)), room)
}

// like holds a log against its plain one.
func like(t *testing.T, l *Log, p *plain) {
	t.Helper()
	hold(t, l, p.sure, p.loose, p.room)
}

// row is n bytes, first and those that follow it.
func row(first, n int) []byte {
	b := make([]byte, n)
	for i := range b {
		b[i] = byte(first + i)
	}
	return b
}

// list is n records: of first bytes, then of one more each.
func list(first, n int) [][]byte {
	var ps [][]byte
	for i := range n {
		ps = append(ps, row(10*i+first, first+i))
	}
	return ps
}

func TestP15_1Example(t *testing.T) {
	d := made(t, 100)
	l := opened(t, d, 0)
	got(t, "Put", l.Put([]byte{1}), api.OK)
	got(t, "Append", l.Append([]byte{2}), api.OK)
	d.Crash(3)
	l = opened(t, d, 3)
	hold(t, l, [][]byte{{1}}, nil, 100)
}

// A log of a new disk of each room has no records.
func TestP15_1New(t *testing.T) {
	rooms := []int{1 << 20, 1<<30 - 1, 1 << 30}
	for room := range 100 {
		rooms = append(rooms, room)
	}
	for _, room := range rooms {
		d := made(t, room)
		for range 3 {
			hold(t, opened(t, d, 0), nil, nil, room)
		}
		l := opened(t, d, 0)
		l.Sync()
		hold(t, l, nil, nil, room)
		got(t, "Checkpoint", l.Checkpoint(nil), api.OK)
		hold(t, l, nil, nil, room)
	}
}

// Records of each length, of no bytes and of the most too, are read as they
// stand there, in order.
func TestP15_1Records(t *testing.T) {
	ps := [][]byte{{}, {0}, nil, {255}, row(3, 5), row(9, most), {}, row(7, most-1), {1}, {1}, row(0, 256), make([]byte, 300)}
	for n := range len(ps) + 1 {
		hold(t, opened(t, file(t, 20000, framed(ps[:n]...), nil), 0), ps[:n], nil, 20000)
		hold(t, opened(t, file(t, 20000, nil, framed(ps[:n]...)), 0), nil, ps[:n], 20000)
	}
	var each [][]byte
	for n := range 300 {
		each = append(each, row(n, n))
	}
	hold(t, opened(t, file(t, 1<<20, framed(each...), nil), 0), each, nil, 1<<20)
}

// Of a file cut at each byte the whole records stay, and what is behind them
// is cut, synced or not; what stays is synced as far as it was.
func TestP15_1Torn(t *testing.T) {
	ps := [][]byte{{1, 2}, {}, row(5, 9), {}, {7}}
	all := framed(ps...)
	for n := range len(all) + 1 {
		whole := 0
		for whole < len(ps) && len(framed(ps[:whole+1]...)) <= n {
			whole++
		}
		end := len(framed(ps[:whole]...))
		for sure := range n + 1 {
			d := file(t, 90, all[:sure], all[sure:n])
			l := opened(t, d, n-end)
			onDisk(t, d, all[:end], min(sure, end), 90)
			if !same(l.Records(), ps[:whole]) {
				t.Fatalf("cut at %d: %d records", n, len(l.Records()))
			}
			opened(t, d, 0)
			onDisk(t, d, all[:end], min(sure, end), 90)
		}
	}
}

// A record of which one bit is turned is cut, with all that stands behind it,
// be it whole or not.
func TestP15_1Turned(t *testing.T) {
	ps := [][]byte{{1, 2}, {}, row(5, 9), {}, {7}}
	all := framed(ps...)
	for i := range all {
		whole := 0
		for len(framed(ps[:whole+1]...)) <= i {
			whole++
		}
		end := len(framed(ps[:whole]...))
		for bit := range 8 {
			b := slices.Clone(all)
			b[i] ^= 1 << bit
			d := file(t, 90, b, nil)
			l := opened(t, d, len(all)-end)
			hold(t, l, ps[:whole], nil, 90)
			got(t, "Put", l.Put([]byte{4, 4}), api.OK)
			hold(t, opened(t, d, 0), append(slices.Clone(ps[:whole]), []byte{4, 4}), nil, 90)
		}
	}
}

// What is no record is cut, whole records behind it too.
func TestP15_1Garbage(t *testing.T) {
	ps := [][]byte{{1}, row(2, 3)}
	for n := range 20 {
		var heads [][]byte
		for _, c := range []byte{0, 1, 7, 31, 32, 255} {
			heads = append(heads, bytes.Repeat([]byte{c}, n))
		}
		for _, b := range heads {
			if n == 0 {
				continue
			}
			b = append(b, framed([]byte{6, 6})...)
			hold(t, opened(t, file(t, 100, slices.Concat(framed(ps...), b), nil), len(b)), ps, nil, 100)
			hold(t, opened(t, file(t, 100, framed(ps...), b), len(b)), ps, nil, 100)
			hold(t, opened(t, file(t, 100, b, nil), len(b)), nil, nil, 100)
		}
	}
	long := framed(row(1, most+1)) // its sum fits, but it is too long
	hold(t, opened(t, file(t, 20000, slices.Concat(framed(ps...), long, framed(ps...)), nil), len(long)+len(framed(ps...))), ps, nil, 20000)
}

// The room bounds no Open: what is there stays, or is cut.
func TestP15_1Room(t *testing.T) {
	ps := list(1, 4)
	for room := range 50 {
		d := file(t, 60, framed(ps[:3]...), framed(ps[3:]...)[:5])
		if !d.Resize(room) {
			t.Fatal("Resize")
		}
		l := opened(t, d, 5)
		hold(t, l, ps[:3], nil, room)
		opened(t, d, 0)
		hold(t, l, ps[:3], nil, room)
	}
}

// The disk is kept: a log changes just that one, and a copy of it is apart.
func TestP15_1Kept(t *testing.T) {
	d := file(t, 60, framed(list(1, 2)...), []byte{1, 2, 3})
	o := d.Copy()
	l := opened(t, d, 3)
	onDisk(t, o, append(framed(list(1, 2)...), 1, 2, 3), len(framed(list(1, 2)...)), 60)
	k := opened(t, o, 3)
	got(t, "Put", l.Put([]byte{7}), api.OK)
	hold(t, k, list(1, 2), nil, 60)
	got(t, "Checkpoint", k.Checkpoint([][]byte{{8}}), api.OK)
	hold(t, l, append(list(1, 2), []byte{7}), nil, 60)
	hold(t, k, [][]byte{{8}}, nil, 60)
}

// Each log of each room: a record that fits is the last one, not synced; of
// one that doesn't nothing is left.
func TestP15_2Append(t *testing.T) {
	for room := 9; room < 40; room++ {
		for sure := range 3 {
			for loose := range 3 {
				for n := range 12 {
					ps := list(1, sure+loose)
					if len(framed(ps...)) > room {
						continue
					}
					l := of(t, room, ps[:sure], ps[sure:])
					p := row(90, n)
					if len(framed(ps...))+6+n > room {
						got(t, "Append", l.Append(p), api.ErrFull)
						hold(t, l, ps[:sure], ps[sure:], room)
						continue
					}
					got(t, "Append", l.Append(p), api.OK)
					hold(t, l, ps[:sure], append(ps[sure:], p), room)
				}
			}
		}
	}
}

// Put is the same, but that all is synced: what was appended ahead too.
func TestP15_2Put(t *testing.T) {
	for room := 9; room < 40; room++ {
		for sure := range 3 {
			for loose := range 3 {
				for n := range 12 {
					ps := list(1, sure+loose)
					if len(framed(ps...)) > room {
						continue
					}
					l := of(t, room, ps[:sure], ps[sure:])
					p := row(90, n)
					if len(framed(ps...))+6+n > room {
						got(t, "Put", l.Put(p), api.ErrFull)
						hold(t, l, ps[:sure], ps[sure:], room)
						continue
					}
					got(t, "Put", l.Put(p), api.OK)
					hold(t, l, append(ps, p), nil, room)
				}
			}
		}
	}
}

// A record has at most so many bytes, whatever the room is: ErrLong is ahead
// of ErrFull, and nothing is synced.
func TestP15_2Long(t *testing.T) {
	ps := list(0, 2)
	for _, room := range []int{13, 20, 8192, 8198, 8211, 1 << 20} {
		for _, n := range []int{most + 1, most + 2, 65535, 65536, 65537, 65536 + most, 1 << 20} {
			l := of(t, room, ps[:1], ps[1:])
			got(t, "Append", l.Append(row(1, n)), api.ErrLong)
			got(t, "Put", l.Put(row(1, n)), api.ErrLong)
			hold(t, l, ps[:1], ps[1:], room)
		}
		l := of(t, room, ps[:1], ps[1:])
		want := api.OK
		if room < 13+6+most {
			want = api.ErrFull
		}
		got(t, "Append", l.Append(row(1, most)), want)
		if want == api.OK {
			hold(t, l, ps[:1], append(ps[1:], row(1, most)), room)
		} else {
			hold(t, l, ps[:1], ps[1:], room)
		}
	}
}

// What is refused leaves the room to what is shorter; for a record of no bytes
// room is needed too.
func TestP15_2Full(t *testing.T) {
	l := of(t, 19, nil, nil)
	got(t, "Put", l.Put(row(1, 15)), api.ErrFull)
	got(t, "Append", l.Append(row(1, 2)), api.OK)
	got(t, "Put", l.Put(row(1, 7)), api.ErrFull)
	hold(t, l, nil, [][]byte{{1, 2}}, 19)
	got(t, "Append", l.Append(nil), api.OK)
	got(t, "Append", l.Append(nil), api.ErrFull)
	got(t, "Put", l.Put(nil), api.ErrFull)
	hold(t, l, nil, [][]byte{{1, 2}, {}}, 19)
	got(t, "Checkpoint", l.Checkpoint([][]byte{nil, {}, nil}), api.OK)
	hold(t, l, [][]byte{{}, {}, {}}, nil, 19)
	got(t, "Append", l.Append(nil), api.ErrFull)
	hold(t, l, [][]byte{{}, {}, {}}, nil, 19)
}

// Sync makes sure what is there, and nothing of what comes later.
func TestP15_2Sync(t *testing.T) {
	for sure := range 4 {
		for loose := range 4 {
			ps := list(0, sure+loose)
			l := of(t, 100, ps[:sure], ps[sure:])
			for range 2 {
				l.Sync()
				hold(t, l, ps, nil, 100)
			}
			got(t, "Append", l.Append([]byte{9}), api.OK)
			hold(t, l, ps, [][]byte{{9}}, 100)
			l.Disk().Crash(0)
			hold(t, opened(t, l.Disk(), 0), ps, nil, 100)
		}
	}
}

// Each log of each room, and each list of records in its stead.
func TestP15_2Checkpoint(t *testing.T) {
	for room := 9; room < 60; room++ {
		for sure := range 3 {
			for loose := range 3 {
				ps := list(1, sure+loose)
				if len(framed(ps...)) > room {
					continue
				}
				for n := range 6 {
					l := of(t, room, ps[:sure], ps[sure:])
					in := list(n%3, n)
					if len(framed(in...)) > room {
						got(t, "Checkpoint", l.Checkpoint(in), api.ErrFull)
						hold(t, l, ps[:sure], ps[sure:], room)
						continue
					}
					got(t, "Checkpoint", l.Checkpoint(in), api.OK)
					hold(t, l, in, nil, room)
					l.Disk().Crash(-1)
					hold(t, opened(t, l.Disk(), 0), in, nil, room)
				}
			}
		}
	}
}

// A record that is too long, at whatever place, is ahead of the room.
func TestP15_2CheckpointLong(t *testing.T) {
	for _, room := range []int{13, 100, 1 << 20} {
		for n := range 5 {
			for at := range n {
				for _, long := range []int{most + 1, 65536, 70000} {
					l := of(t, room, list(0, 1), list(1, 1))
					in := list(40, n)
					in[at] = row(1, long)
					got(t, "Checkpoint", l.Checkpoint(in), api.ErrLong)
					hold(t, l, list(0, 1), list(1, 1), room)
				}
			}
		}
	}
	l := of(t, 2*(6+most), list(0, 1), list(1, 1))
	got(t, "Checkpoint", l.Checkpoint([][]byte{row(1, most), row(2, most), nil}), api.ErrFull)
	hold(t, l, list(0, 1), list(1, 1), 2*(6+most))
	got(t, "Checkpoint", l.Checkpoint([][]byte{row(1, most), row(2, most)}), api.OK)
	hold(t, l, [][]byte{row(1, most), row(2, most)}, nil, 2*(6+most))
}

// Behind a checkpoint the log goes on: what is appended stands behind its
// records.
func TestP15_2CheckpointOn(t *testing.T) {
	l := of(t, 40, list(1, 2), list(3, 1))
	got(t, "Checkpoint", l.Checkpoint([][]byte{{5}, {6, 7}}), api.OK)
	got(t, "Append", l.Append([]byte{8}), api.OK)
	hold(t, l, [][]byte{{5}, {6, 7}}, [][]byte{{8}}, 40)
	got(t, "Checkpoint", l.Checkpoint(l.Records()[1:]), api.OK)
	hold(t, l, [][]byte{{6, 7}, {8}}, nil, 40)
	got(t, "Put", l.Put([]byte{9}), api.OK)
	hold(t, l, [][]byte{{6, 7}, {8}, {9}}, nil, 40)
	got(t, "Checkpoint", l.Checkpoint([][]byte{}), api.OK)
	hold(t, l, nil, nil, 40)
	got(t, "Append", l.Append([]byte{1}), api.OK)
	hold(t, l, nil, [][]byte{{1}}, 40)
}

// The room is the disk's at the time.
func TestP15_2Resize(t *testing.T) {
	l := of(t, 20, [][]byte{{1}}, [][]byte{{2}})
	d := l.Disk()
	for _, room := range []int{0, 7, 13, 14, 19} {
		d.Resize(room)
		got(t, "Append", l.Append(nil), api.ErrFull)
		got(t, "Put", l.Put(nil), api.ErrFull)
		hold(t, l, [][]byte{{1}}, [][]byte{{2}}, room)
	}
	d.Resize(6)
	got(t, "Checkpoint", l.Checkpoint([][]byte{{1}}), api.ErrFull)
	hold(t, l, [][]byte{{1}}, [][]byte{{2}}, 6)
	d.Resize(7)
	got(t, "Checkpoint", l.Checkpoint([][]byte{{3}}), api.OK)
	hold(t, l, [][]byte{{3}}, nil, 7)
	d.Resize(1 << 30)
	got(t, "Append", l.Append(row(1, 100)), api.OK)
	hold(t, l, [][]byte{{3}}, [][]byte{row(1, 100)}, 1<<30)
}

// The log has its records, whatever befalls the disk beside it; opened anew it
// has those of the file.
func TestP15_2Beside(t *testing.T) {
	d := file(t, 90, framed(list(1, 2)...), framed(list(1, 1)...))
	l := opened(t, d, 0)
	d.Append([]byte{1, 2, 3})
	got(t, "Append", l.Append([]byte{7}), api.OK)
	was := slices.Concat(list(1, 2), list(1, 1), [][]byte{{7}})
	if !same(l.Records(), was) {
		t.Fatalf("Records: %v", l.Records())
	}
	hold(t, opened(t, d, 10), list(1, 2), list(1, 1), 90)
	d.Crash(0)
	if !same(l.Records(), was) {
		t.Fatalf("Records: %v", l.Records())
	}
	hold(t, opened(t, d, 0), list(1, 2), nil, 90)
	got(t, "Checkpoint", l.Checkpoint([][]byte{{8}}), api.OK)
	hold(t, l, [][]byte{{8}}, nil, 90)
}

// spoil writes into all of the list's memory, spare room too.
func spoil(b []byte) {
	b = b[:cap(b)]
	for i := range b {
		b[i] = 0xEE
	}
}

// spoilAll writes into all memory of a list of records, spare room too.
func spoilAll(ps [][]byte) {
	ps = ps[:cap(ps)]
	for i := range ps {
		spoil(ps[i])
		ps[i] = []byte{0xEE}
	}
}

// lengths are those of records of no bytes, of few, and of more than lists
// commonly begin with.
var lengths = []int{0, 1, 2, 5, 7, 8, 9, 16, 31, 32, 33, 64, 100, 1000, most}

// What is handed in is not kept: what becomes of it later the log doesn't show.
func TestP15_3Kept(t *testing.T) {
	for _, n := range lengths {
		for _, spare := range []int{0, 9} {
			in := func(first int) []byte {
				return append(make([]byte, 0, n+spare), row(first, n)...)
			}
			l := of(t, 60000, nil, nil)
			a, p := in(1), in(2)
			got(t, "Put", l.Put(p), api.OK)
			got(t, "Append", l.Append(a), api.OK)
			spoil(a)
			spoil(p)
			hold(t, l, [][]byte{row(2, n)}, [][]byte{row(1, n)}, 60000)
			ps := append(make([][]byte, 0, 3+spare), in(3), in(4), in(5))
			got(t, "Checkpoint", l.Checkpoint(ps), api.OK)
			spoilAll(ps)
			want := [][]byte{row(3, n), row(4, n), row(5, n)}
			hold(t, l, want, nil, 60000)
			hold(t, opened(t, l.Disk().Copy(), 0), want, nil, 60000)
		}
	}
}

// What is handed in is not changed, nor what lies behind it, by the call or by
// what the log does later.
func TestP15_3In(t *testing.T) {
	for _, n := range lengths {
		a, p := row(1, n+9), row(2, n+9)
		c := [][]byte{row(3, n+9)[:n], row(4, n+9)[:n], row(5, 3), row(6, 3)}
		l := of(t, 60000, nil, nil)
		got(t, "Append", l.Append(a[:n]), api.OK)
		got(t, "Put", l.Put(p[:n]), api.OK)
		got(t, "Append", l.Append([]byte{1, 2}), api.OK)
		spoilAll(l.Records())
		got(t, "Checkpoint", l.Checkpoint(c[:2]), api.OK)
		got(t, "Append", l.Append(row(70, 5)), api.OK)
		got(t, "Put", l.Put(row(80, 5)), api.OK)
		spoilAll(l.Records())
		got(t, "Checkpoint", l.Checkpoint(nil), api.OK)
		if !bytes.Equal(a, row(1, n+9)) || !bytes.Equal(p, row(2, n+9)) {
			t.Fatalf("%d bytes: what was handed in was changed", n)
		}
		c[0], c[1] = c[0][:n+9], c[1][:n+9]
		if !same(c, [][]byte{row(3, n+9), row(4, n+9), row(5, 3), row(6, 3)}) {
			t.Fatalf("%d bytes: what was handed in was changed", n)
		}
	}
}

// What is refused is neither changed nor kept.
func TestP15_3Refused(t *testing.T) {
	l := of(t, 14, [][]byte{{1}}, [][]byte{{2}})
	p, long := row(1, 9), row(1, most+1)
	got(t, "Append", l.Append(p), api.ErrFull)
	got(t, "Put", l.Put(long), api.ErrLong)
	full, far := [][]byte{p, p}, [][]byte{p, long, p}
	got(t, "Checkpoint", l.Checkpoint(full), api.ErrFull)
	got(t, "Checkpoint", l.Checkpoint(far), api.ErrLong)
	if !bytes.Equal(p, row(1, 9)) || !bytes.Equal(long, row(1, most+1)) || !same(full, [][]byte{p, p}) || !same(far, [][]byte{p, long, p}) {
		t.Fatal("what was handed in was changed")
	}
	spoilAll(full)
	spoilAll(far)
	hold(t, l, [][]byte{{1}}, [][]byte{{2}}, 14)
}

// What is answered is new memory: the log doesn't show what is written into
// it, nor its disk, nor another answer, nor another record of the same one.
func TestP15_3Out(t *testing.T) {
	for _, n := range lengths {
		want := [][]byte{row(1, n), row(2, n), {}, row(3, n)}
		for _, l := range []*Log{written(t, want), read(t, want), swapped(t, want)} {
			other, kept := l.Records(), l.Records()
			now := l.Records()
			for i := range now {
				_ = append(now[i], 1, 2, 3)
				spoil(now[i])
				if !same(now[i+1:], want[i+1:]) {
					t.Fatalf("record %d shows record %d", i+1, i)
				}
			}
			_ = append(now, []byte{1})
			spoilAll(now)
			hold(t, l, want, nil, 60000)
			hold(t, opened(t, l.Disk().Copy(), 0), want, nil, 60000)
			got(t, "Put", l.Put([]byte{7}), api.OK)
			spoilAll(now)
			spoilAll(other)
			hold(t, l, append(slices.Clone(want), []byte{7}), nil, 60000)
			got(t, "Checkpoint", l.Checkpoint([][]byte{{8}, {9}}), api.OK)
			if !same(kept, want) {
				t.Fatalf("%d bytes: an answer shows what came later", n)
			}
		}
	}
}

// written is a log that was given its records one by one.
func written(t *testing.T, ps [][]byte) *Log {
	t.Helper()
	l := of(t, 60000, nil, nil)
	for _, p := range ps {
		got(t, "Put", l.Put(p), api.OK)
	}
	return l
}

// read is a log that found its records.
func read(t *testing.T, ps [][]byte) *Log {
	t.Helper()
	return of(t, 60000, ps, nil)
}

// swapped is a log that was given its records at one blow.
func swapped(t *testing.T, ps [][]byte) *Log {
	t.Helper()
	l := of(t, 60000, [][]byte{{9}}, nil)
	got(t, "Checkpoint", l.Checkpoint(ps), api.OK)
	return l
}

// A log's own records may be handed in again.
func TestP15_3Again(t *testing.T) {
	l := of(t, 100, list(2, 2), nil)
	rs := l.Records()
	got(t, "Append", l.Append(rs[0]), api.OK)
	got(t, "Checkpoint", l.Checkpoint(append(l.Records(), rs[0], rs[0], rs[1][:1])), api.OK)
	spoilAll(rs)
	ps := list(2, 2)
	want := [][]byte{ps[0], ps[1], ps[0], ps[0], ps[0], ps[1][:1]}
	hold(t, l, want, nil, 100)
	now := l.Records()
	spoil(now[0])
	if !same(now[1:], want[1:]) {
		t.Fatal("one record shows another")
	}
}

// acts are what may befall a log; each makes records that begin with mark.
var acts = []func(t *testing.T, l *Log, p *plain, mark byte){
	func(t *testing.T, l *Log, p *plain, mark byte) { got(t, "Append", l.Append(nil), p.append(nil)) },
	func(t *testing.T, l *Log, p *plain, mark byte) {
		got(t, "Append", l.Append([]byte{mark, 0}), p.append([]byte{mark, 0}))
	},
	func(t *testing.T, l *Log, p *plain, mark byte) { l.Sync(); p.sync() },
	func(t *testing.T, l *Log, p *plain, mark byte) {
		got(t, "Put", l.Put([]byte{mark}), p.put([]byte{mark}))
	},
	func(t *testing.T, l *Log, p *plain, mark byte) {
		got(t, "Checkpoint", l.Checkpoint([][]byte{{mark}, nil}), p.checkpoint([][]byte{{mark}, nil}))
	},
	func(t *testing.T, l *Log, p *plain, mark byte) {
		many := [][]byte{{mark}, {mark, 1, 2, 3, 4, 5}, nil}
		got(t, "Checkpoint", l.Checkpoint(many), p.checkpoint(many))
	},
	func(t *testing.T, l *Log, p *plain, mark byte) {
		got(t, "Checkpoint", l.Checkpoint(nil), p.checkpoint(nil))
	},
}

// Each row of four acts upon a log of 24 bytes, and each crash behind it.
func TestP15_4Acts(t *testing.T) {
	many := len(acts)
	for code := range many * many * many * many {
		l, p := of(t, 24, nil, nil), &plain{room: 24}
		for i := range 4 {
			acts[code%many](t, l, p, byte(10*i+10))
			code /= many
			like(t, l, p)
		}
		for keep := -1; keep < 26; keep++ {
			crashed(t, l, p, keep)
		}
		crashed(t, l, p, math.MinInt)
		crashed(t, l, p, math.MaxInt)
	}
}

// crashed holds what a crash of the log's disk leaves, on a copy of it.
func crashed(t *testing.T, l *Log, p *plain, keep int) {
	t.Helper()
	was, sure := l.Records(), len(p.sure)
	d, o := l.Disk().Copy(), *p
	d.Crash(keep)
	k := opened(t, d, o.crash(keep))
	like(t, k, &o)
	now := k.Records()
	if len(now) < sure || len(now) > len(was) || !same(now, was[:len(now)]) {
		t.Fatalf("of %d records, %d of them sure, %d are left", len(was), sure, len(now))
	}
	like(t, opened(t, d, 0), &o)
}

// Random histories with crashes amid them: each answer is the plain log's.
func TestP15_4Random(t *testing.T) {
	r := rand.New(rand.NewSource(154))
	for range 150 {
		room := r.Intn(400)
		d, p := made(t, room), &plain{room: room}
		l := opened(t, d, 0)
		for range 150 {
			if r.Intn(15) == 0 {
				keep := r.Intn(60) - 7
				d.Crash(keep)
				l = opened(t, d, p.crash(keep))
				like(t, opened(t, d, 0), p)
			} else {
				befall(t, r, l, p)
			}
			like(t, l, p)
		}
	}
}

func befall(t *testing.T, r *rand.Rand, l *Log, p *plain) {
	t.Helper()
	b := make([]byte, r.Intn(20))
	r.Read(b)
	switch r.Intn(9) {
	case 0:
		l.Sync()
		p.sync()
	case 1:
		got(t, "Put", l.Put(b), p.put(b))
	case 2:
		all := p.all()
		ps := append(slices.Clone(all[r.Intn(len(all)+1):]), b)
		got(t, "Checkpoint", l.Checkpoint(ps), p.checkpoint(ps))
	case 3:
		b = make([]byte, most+r.Intn(3))
		got(t, "Append", l.Append(b), p.append(b))
	default:
		got(t, "Append", l.Append(b), p.append(b))
	}
}

// A log opened behind a crash goes on where the torn record began, each time
// that it is torn.
func TestP15_4Lives(t *testing.T) {
	for torn := range 9 {
		d := made(t, 2000)
		var want [][]byte
		l := opened(t, d, 0)
		for n := range 60 {
			p := []byte{byte(n), 1, 2}
			got(t, "Put", l.Put(p), api.OK)
			want = append(want, p)
			got(t, "Append", l.Append([]byte{7, 7, 7}), api.OK)
			d.Crash(torn)
			l = opened(t, d, torn)
			hold(t, l, want, nil, 2000)
		}
		d.Crash(0)
		hold(t, opened(t, d, 0), want, nil, 2000)
	}
}

// Many records, and a crash amid them.
func TestP15_4Many(t *testing.T) {
	const many, room = 100000, 1 << 24
	l := of(t, room, nil, nil)
	var ps [][]byte
	for n := range many {
		p := row(n, n%50)
		got(t, "Append", l.Append(p), api.OK)
		if n == many/3 {
			l.Sync()
		}
		ps = append(ps, p)
	}
	hold(t, l, ps[:many/3+1], ps[many/3+1:], room)
	d := l.Disk()
	o := d.Copy()
	left := ps[many/3+1 : many/2]
	d.Crash(len(framed(left...)) + 5)
	hold(t, opened(t, d, 5), ps[:many/2], nil, room)
	o.Crash(0)
	k := opened(t, o, 0)
	hold(t, k, ps[:many/3+1], nil, room)
	got(t, "Checkpoint", k.Checkpoint(ps), api.OK)
	hold(t, k, ps, nil, room)
	o.Crash(-1)
	hold(t, opened(t, o, 0), ps, nil, room)
}

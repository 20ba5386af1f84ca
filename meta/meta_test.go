package meta

import (
	"fmt"
	"maps"
	"math"
	"math/rand/v2"
	"slices"
	"strings"
	"testing"

	"lapstone/api"
	"lapstone/disk"
	"lapstone/record"
	"lapstone/sum"
)

// size is the number of sectors of most disks here, and at the first sector of the meta pages on them.
const (
	size = 7
	at   = 3
)

// far are numbers that are far off.
var far = []int{math.MinInt, math.MinInt + 1, -1 << 32, -65536, -2, -1, 65535, 65536, 65537, 1 << 31, 1 << 32, math.MaxInt - 1, math.MaxInt}

// seqs are numbers at the edges of their encodings' lengths, but 0.
var seqs = []uint64{1, 2, 3, 127, 128, 16383, 16384, 1<<32 - 1, 1 << 32, 1<<63 - 1, 1 << 63, math.MaxUint64 - 1, math.MaxUint64}

// sectors is what the sectors in use of a disk hold.
type sectors map[int]string

func body(n int) string { return strings.Repeat("x", n) }

// enc is the encoding of a record.
func enc(seq uint64, body string) string {
	b, e := record.Put(api.Record{Seq: seq, Body: body})
	if e != api.OK {
		panic("a body that is too long")
	}
	return string(b)
}

// sealed puts the checksum behind fields and the length in front of both, whatever the fields are.
func sealed(fields string) string {
	s := sum.Seal([]byte(fields))
	return string([]byte{0, 0, byte(len(s) >> 8), byte(len(s))}) + string(s)
}

func fresh(t testing.TB, n int) *disk.Disk {
	t.Helper()
	d, e := disk.New(n)
	if e != api.OK {
		t.Fatal(e)
	}
	return d
}

// laid returns a disk with these sectors, synced.
func laid(t testing.TB, n int, held sectors) *disk.Disk {
	t.Helper()
	d := fresh(t, n)
	for i, s := range held {
		if e := d.Write(i, []byte(s)); e != api.OK {
			t.Fatal(i, e)
		}
	}
	d.Sync()
	return d
}

// contents is what the sectors in use hold in the view.
func contents(d *disk.Disk, n int) sectors {
	m := sectors{}
	for i := range n {
		if b, e := d.Read(i); e == api.OK {
			m[i] = string(b)
		}
	}
	return m
}

// holds checks what the sectors hold in the view and in the ground, and how many operations are pending.
func holds(t testing.TB, d *disk.Disk, n int, view, ground sectors, pending int) {
	t.Helper()
	if got := contents(d, n); !maps.Equal(got, view) || d.Used() != len(view) {
		t.Fatalf("the view is %.300q; want %.300q", fmt.Sprint(got), fmt.Sprint(view))
	}
	c := d.Copy()
	c.Crash(nil)
	if got := contents(c, n); !maps.Equal(got, ground) {
		t.Fatalf("the ground is %.300q; want %.300q", fmt.Sprint(got), fmt.Sprint(ground))
	}
	if d.Pending() != pending {
		t.Fatalf("%d operations are pending; want %d", d.Pending(), pending)
	}
}

// same checks that two disks have the same view, ground and pending operations, as far as crashes tell.
func same(t testing.TB, d, other *disk.Disk, n int) {
	t.Helper()
	holds(t, d, n, contents(other, n), grounded(other, nil, n), other.Pending())
	for i := range other.Pending() {
		for _, bytes := range []int{0, 5, 512} {
			l := []api.Survivor{{Write: i, Bytes: bytes}}
			if got, want := grounded(d, l, n), grounded(other, l, n); !maps.Equal(got, want) {
				t.Fatalf("after a crash that %v survives: %.300q; want %.300q", l, fmt.Sprint(got), fmt.Sprint(want))
			}
		}
	}
}

// grounded is what a crash leaves.
func grounded(d *disk.Disk, l []api.Survivor, n int) sectors {
	c := d.Copy()
	c.Crash(l)
	return contents(c, n)
}

// opened opens a meta page that is to have a string and a number: a number of 0 stands for none.
func opened(t testing.TB, d *disk.Disk, at int, want string, number uint64) *Meta {
	t.Helper()
	err := api.OK
	if number == 0 {
		err = api.ErrMetaNone
	}
	m, s, e := Open(d, at)
	if m == nil || s != want || e != err {
		t.Fatalf("Open(%d) = %v, %.40q, %d; want %.40q, %d", at, m, s, e, want, err)
	}
	is(t, m, number)
	return m
}

func is(t testing.TB, m *Meta, number uint64) {
	t.Helper()
	if n := m.Number(); n != number {
		t.Fatalf("Number() = %d; want %d", n, number)
	}
}

func write(t testing.TB, m *Meta, body string, want api.Errno) {
	t.Helper()
	if e := m.Write(body); e != want {
		t.Fatalf("Write of %d bytes = %d; want %d", len(body), e, want)
	}
}

func steps(t testing.TB, m *Meta, body string, n int, want bool, err api.Errno) {
	t.Helper()
	if done, e := m.Steps(body, n); done != want || e != err {
		t.Fatalf("Steps of %d bytes, %d = %t, %d; want %t, %d", len(body), n, done, e, want, err)
	}
}

// P12.1

func TestExample(t *testing.T) {
	d := fresh(t, 2)
	m := opened(t, d, 0, "", 0)
	write(t, m, "a", api.OK)
	write(t, m, "b", api.OK)
	d.Crash(nil)
	opened(t, d, 0, "b", 2)
	steps(t, m, "c", 3, false, api.OK)
	lost, kept := d.Copy(), d.Copy()
	lost.Crash(nil)
	opened(t, lost, 0, "b", 2)
	kept.Crash([]api.Survivor{{Write: 0, Bytes: 512}})
	opened(t, kept, 0, "c", 3)
}

func TestOpenPlace(t *testing.T) {
	for _, n := range []int{1, 2, 7, 65536} {
		d := fresh(t, n)
		for _, at := range far {
			if m, s, e := Open(d, at); m != nil || s != "" || e != api.ErrMetaPlace {
				t.Errorf("Open(%d) = %v, %q, %d; want ErrMetaPlace", at, m, s, e)
			}
		}
		for at := range 65535 {
			opened(t, d, at, "", 0)
		}
	}
}

// TestOpenEnd opens meta pages at the ends of what may be, and of the disk.
func TestOpenEnd(t *testing.T) {
	d := laid(t, 65536, sectors{0: enc(5, "a"), 1: enc(4, "b"), 2: enc(3, "c"), 65533: enc(9, "d"), 65534: enc(8, "e"), 65535: enc(7, "f")})
	opened(t, d, 0, "a", 5)
	opened(t, d, 1, "b", 4)
	opened(t, d, 2, "c", 3)
	opened(t, d, 3, "", 0)
	opened(t, d, 65532, "d", 9)
	opened(t, d, 65533, "d", 9)
	opened(t, d, 65534, "e", 8)
	d = laid(t, 3, sectors{0: enc(5, "a"), 2: enc(9, "b")})
	opened(t, d, 0, "a", 5)
	opened(t, d, 1, "b", 9)
	opened(t, d, 2, "b", 9) // there is no second sector
	opened(t, d, 3, "", 0)
	opened(t, d, 65534, "", 0)
}

// TestOpenBytes opens what is worked out by hand.
func TestOpenBytes(t *testing.T) {
	const one = "\x00\x00\x00\x07\x01\x01a\x33\x3e\x34\x84"
	opened(t, laid(t, size, sectors{at: one}), at, "a", 1)
	opened(t, laid(t, size, sectors{at + 1: one}), at, "a", 1)
	d := fresh(t, size)
	write(t, opened(t, d, at, "", 0), "a", api.OK)
	holds(t, d, size, sectors{at: one}, sectors{at: one}, 0)
}

// TestOpenGreater has all pairs of numbers in the two sectors.
func TestOpenGreater(t *testing.T) {
	for _, a := range seqs {
		opened(t, laid(t, size, sectors{at: enc(a, "first")}), at, "first", a)
		opened(t, laid(t, size, sectors{at + 1: enc(a, "second")}), at, "second", a)
		for _, b := range seqs {
			d := laid(t, size, sectors{at: enc(a, "first"), at + 1: enc(b, "second")})
			if b > a {
				opened(t, d, at, "second", b)
			} else {
				opened(t, d, at, "first", a)
			}
		}
	}
}

// TestOpenBody opens strings of every length that fits into a sector: a valid sector may have more than a write would.
func TestOpenBody(t *testing.T) {
	for n := range 502 {
		if n < 2 || n > 126 && n < 130 || n > 470 {
			opened(t, laid(t, size, sectors{at: enc(1, body(n))}), at, body(n), 1)
			opened(t, laid(t, size, sectors{at: enc(1, "a"), at + 1: enc(2, body(n))}), at, body(n), 2)
		}
	}
	for _, s := range []string{"\x00", "\xff\xfe", "é", enc(7, "a")} {
		opened(t, laid(t, size, sectors{at: enc(1, s)}), at, s, 1)
	}
}

// invalid is contents of sectors that are in use but not valid, though some begin or end with a record of a great number.
func invalid() []string {
	r := enc(900, "abc")
	l := []string{
		"a", "\x00", body(512), strings.Repeat("\x00", 512), "\x00\x00\x00\x04" + "\x00\x00\x00\x00",
		enc(0, ""), enc(0, "a"), enc(0, body(480)),
		r + "\x00", r + "a", r + body(512-len(r)), r + r, r + enc(901, "abc"), "\x00" + r, enc(0, "") + r, r + enc(0, ""),
		sealed("\x05"), sealed("\x05\x01"), sealed("\x05\x02a"), sealed("\x05\x01ab"), sealed("\x05\x01a\x00"),
		sealed("\x85\x00\x01a"), sealed("\x05\x81\x00a"), sealed(""),
	}
	for i := range len(r) {
		l = append(l, r[:i], r[i+1:])
		for bit := range 8 {
			b := []byte(r)
			b[i] ^= 1 << bit
			l = append(l, string(b))
		}
	}
	return l
}

func TestOpenInvalid(t *testing.T) {
	for _, x := range append(invalid(), "") {
		opened(t, laid(t, size, sectors{at: x}), at, "", 0)
		opened(t, laid(t, size, sectors{at + 1: x}), at, "", 0)
		opened(t, laid(t, size, sectors{at: x, at + 1: x}), at, "", 0)
		opened(t, laid(t, size, sectors{at: x, at + 1: enc(2, "b")}), at, "b", 2)
		opened(t, laid(t, size, sectors{at: enc(2, "b"), at + 1: x}), at, "b", 2)
	}
}

// TestOpenStill holds that Open finds what is pending, and changes nothing.
func TestOpenStill(t *testing.T) {
	ground := sectors{1: "else", at: enc(1, "a"), at + 1: "torn"}
	d := laid(t, size, ground)
	d.Write(at+1, []byte(enc(2, "b")))
	d.Free(at)
	d.Write(5, nil)
	view := sectors{1: "else", at + 1: enc(2, "b"), 5: ""}
	for range 3 {
		opened(t, d, at, "b", 2)
		opened(t, d, 0, "", 0)
		opened(t, d, 65534, "", 0)
		Open(d, -1)
		holds(t, d, size, view, ground, 3)
	}
	d.Crash(nil)
	opened(t, d, at, "a", 1)
	holds(t, d, size, ground, ground, 0)
}

// P12.2

func TestWriteLong(t *testing.T) {
	ground := sectors{at: enc(1, "a"), at + 1: "torn"}
	d := laid(t, size, ground)
	m := opened(t, d, at, "a", 1)
	d.Write(0, nil)
	view := maps.Clone(ground)
	view[0] = ""
	for _, n := range []int{481, 482, 500, 512, 513, 32768, 32769, 1 << 20} {
		write(t, m, body(n), api.ErrMetaLong)
		for _, k := range append(far, 0, 1, 2, 3, 4, 5) {
			steps(t, m, body(n), k, false, api.ErrMetaLong)
		}
		is(t, m, 1)
		holds(t, d, size, view, ground, 1)
	}
	d = fresh(t, 1) // ErrMetaLong is there before an error of the disk
	d.Limit(0)
	write(t, opened(t, d, 0, "", 0), body(481), api.ErrMetaLong)
	write(t, opened(t, d, 1, "", 0), body(481), api.ErrMetaLong)
}

// TestWrite writes strings of all lengths in turn, and opens them.
func TestWrite(t *testing.T) {
	d := fresh(t, size)
	m := opened(t, d, at, "", 0)
	want := sectors{}
	for n := range 481 {
		number := uint64(n) + 1
		write(t, m, body(n), api.OK)
		is(t, m, number)
		want[at+n%2] = enc(number, body(n))
		holds(t, d, size, want, want, 0)
		opened(t, d, at, body(n), number)
	}
	for _, s := range []string{"\x00", "\xff\xfe", "é", enc(7, "a"), ""} {
		write(t, m, s, api.OK)
		opened(t, d, at, s, m.Number())
	}
}

// TestGreat writes with great numbers: the longest record fits into a sector.
func TestGreat(t *testing.T) {
	for _, seq := range seqs[:len(seqs)-1] {
		d := laid(t, size, sectors{at + 1: enc(seq, "a")})
		m := opened(t, d, at, "a", seq)
		write(t, m, body(480), api.OK)
		is(t, m, seq+1)
		opened(t, d, at, body(480), seq+1)
		want := sectors{at: enc(seq+1, body(480)), at + 1: enc(seq, "a")}
		holds(t, d, size, want, want, 0)
	}
}

// TestWrap writes behind the greatest number: numbers wrap around, though a sector with the number 0 is not valid.
func TestWrap(t *testing.T) {
	for i := range 2 {
		last, other := at+i, at+1-i
		d := laid(t, size, sectors{last: enc(math.MaxUint64, "a")})
		m := opened(t, d, at, "a", math.MaxUint64)
		write(t, m, "b", api.OK)
		is(t, m, 0)
		want := sectors{last: enc(math.MaxUint64, "a"), other: enc(0, "b")}
		holds(t, d, size, want, want, 0)
		opened(t, d, at, "a", math.MaxUint64)
		write(t, m, "c", api.OK) // the last completed write is that of 0
		is(t, m, 1)
		want[last] = enc(1, "c")
		holds(t, d, size, want, want, 0)
		opened(t, d, at, "c", 1)
		write(t, m, "d", api.OK)
		is(t, m, 2)
		want[other] = enc(2, "d")
		holds(t, d, size, want, want, 0)
	}
}

// TestSteps holds what the disk has after each number of steps, where the sector was in use and where it was not.
func TestSteps(t *testing.T) {
	const seven = "\x00\x00\x00\x07\x01"
	for _, old := range []string{"none", "", "torn", seven, enc(5, "z"), enc(6, "z")} {
		ground := sectors{at: enc(6, "a")}
		freed := maps.Clone(ground)
		pending := 1 // the write of the sector 0
		if old != "none" {
			ground[at+1] = old
			pending++
		}
		with := func(s sectors, i int, b string) sectors {
			s = maps.Clone(s)
			s[i] = b
			return s
		}
		for _, n := range append(far, 0, 1, 2, 3, 4, 5) {
			d := laid(t, size, ground)
			d.Write(0, []byte("else"))
			m := opened(t, d, at, "a", 6)
			steps(t, m, "b", n, n >= 4, api.OK)
			clear, whole := with(freed, 0, "else"), with(with(freed, 0, "else"), at+1, enc(7, "b"))
			switch {
			case n < 1:
				holds(t, d, size, with(ground, 0, "else"), ground, 1)
			case n == 1:
				holds(t, d, size, clear, ground, pending)
			case n == 2:
				holds(t, d, size, clear, clear, 0)
			case n == 3:
				holds(t, d, size, whole, clear, 1)
			default:
				holds(t, d, size, whole, whole, 0)
			}
			if n >= 4 {
				is(t, m, 7)
			} else {
				is(t, m, 6)
			}
		}
	}
}

// TestSector holds which sector is used first, and that the two are used in turn.
func TestSector(t *testing.T) {
	for _, x := range []struct {
		held   sectors
		number uint64
		body   string
		first  int
	}{
		{sectors{}, 0, "", 0},
		{sectors{at: "torn"}, 0, "", 0},
		{sectors{at + 1: "torn"}, 0, "", 0},
		{sectors{at: "", at + 1: ""}, 0, "", 0},
		{sectors{at: enc(0, "a")}, 0, "", 0},
		{sectors{at: enc(1, "a")}, 1, "a", 1},
		{sectors{at + 1: enc(1, "b")}, 1, "b", 0},
		{sectors{at: enc(3, "a"), at + 1: "torn"}, 3, "a", 1},
		{sectors{at: "torn", at + 1: enc(3, "b")}, 3, "b", 0},
		{sectors{at: enc(1, "a"), at + 1: enc(2, "b")}, 2, "b", 0},
		{sectors{at: enc(9, "a"), at + 1: enc(2, "b")}, 9, "a", 1},
		{sectors{at: enc(4, "a"), at + 1: enc(4, "b")}, 4, "a", 1},
	} {
		held := maps.Clone(x.held)
		held[at-1], held[at+2] = enc(99, "before"), enc(99, "behind")
		d := laid(t, size, held)
		m := opened(t, d, at, x.body, x.number)
		for i := range 5 {
			number, s := x.number+uint64(i)+1, strings.Repeat("n", i)
			write(t, m, s, api.OK)
			is(t, m, number)
			held[at+(x.first+i)%2] = enc(number, s)
			holds(t, d, size, held, held, 0)
			opened(t, d, at, s, number)
		}
	}
}

// TestNone holds that a write of the first string of all that is not completed leaves none, so that the next one uses the first sector again.
func TestNone(t *testing.T) {
	d := fresh(t, size)
	m := opened(t, d, at, "", 0)
	for n := range 4 {
		steps(t, m, "a", n, false, api.OK)
		is(t, m, 0)
	}
	steps(t, m, "b", 4, true, api.OK)
	is(t, m, 1)
	holds(t, d, size, sectors{at: enc(1, "b")}, sectors{at: enc(1, "b")}, 0)
}

// TestRemember holds that what counts is the last completed write of the meta page itself, whatever the sectors contain otherwise.
func TestRemember(t *testing.T) {
	start := sectors{at: enc(5, "a"), at + 1: enc(4, "z")}
	check := func(act func(d *disk.Disk, m *Meta)) {
		t.Helper()
		d := laid(t, size, start)
		m := opened(t, d, at, "a", 5)
		act(d, m)
		is(t, m, 5)
		write(t, m, "c", api.OK)
		is(t, m, 6)
		want := contents(d, size)
		want[at+1] = enc(6, "c")
		holds(t, d, size, want, want, 0)
		write(t, m, "d", api.OK)
		is(t, m, 7)
		want = sectors{at: enc(7, "d"), at + 1: enc(6, "c")}
		holds(t, d, size, want, want, 0)
	}
	for n := range 4 {
		check(func(_ *disk.Disk, m *Meta) { steps(t, m, "b", n, false, api.OK) })
		check(func(d *disk.Disk, m *Meta) {
			steps(t, m, "b", n, false, api.OK)
			d.Sync() // by somebody else: the write is not completed by it
			steps(t, m, "b", n, false, api.OK)
		})
		check(func(d *disk.Disk, m *Meta) {
			steps(t, m, "b", n, false, api.OK)
			d.Crash(nil)
		})
		check(func(d *disk.Disk, m *Meta) {
			steps(t, m, "b", n, false, api.OK)
			d.Crash([]api.Survivor{{Write: 0, Bytes: 512}})
			Open(d, at)
		})
		check(func(d *disk.Disk, m *Meta) {
			for _, limit := range []int{0, 1} {
				d.Limit(limit)
				write(t, m, "b", api.ErrDiskFull)
			}
			d.Limit(2)
			steps(t, m, "b", n, false, api.OK)
		})
	}
	check(func(d *disk.Disk, _ *Meta) { d.Free(at) })
	check(func(d *disk.Disk, _ *Meta) { d.Free(at + 1) })
	check(func(d *disk.Disk, _ *Meta) { d.Write(at, []byte("torn")) })
	check(func(d *disk.Disk, _ *Meta) { d.Write(at, []byte(enc(900, "x"))) })
	check(func(d *disk.Disk, _ *Meta) { d.Write(at+1, []byte(enc(900, "x"))) })
}

// TestFull writes to a full disk: the sector was freed, but the write is not completed.
func TestFull(t *testing.T) {
	for n := 3; n <= 5; n++ {
		ground := sectors{0: "else", at: enc(6, "a"), at + 1: enc(5, "z")}
		d := laid(t, size, ground)
		m := opened(t, d, at, "a", 6)
		d.Limit(2)
		d.Write(0, []byte("pending"))
		steps(t, m, "b", n, false, api.ErrDiskFull)
		is(t, m, 6)
		left := sectors{0: "pending", at: enc(6, "a")}
		holds(t, d, size, left, left, 0)
		steps(t, m, "b", 2, false, api.OK) // it does not get to the write
		opened(t, d, at, "a", 6)
		d.Limit(3) // now there is room just when the sector was freed
		write(t, m, "b", api.OK)
		is(t, m, 7)
		write(t, m, "c", api.OK)
		is(t, m, 8)
		left[at], left[at+1] = enc(8, "c"), enc(7, "b")
		holds(t, d, size, left, left, 0)
	}
}

// TestFullFirst writes the first string of all to a full disk.
func TestFullFirst(t *testing.T) {
	d := fresh(t, size)
	m := opened(t, d, at, "", 0)
	d.Limit(0)
	write(t, m, "a", api.ErrDiskFull)
	is(t, m, 0)
	holds(t, d, size, sectors{}, sectors{}, 0)
	d.Limit(size)
	write(t, m, "a", api.OK)
	is(t, m, 1)
	holds(t, d, size, sectors{at: enc(1, "a")}, sectors{at: enc(1, "a")}, 0)
}

// TestNoSector writes where the disk has one sector of the two, or none.
func TestNoSector(t *testing.T) {
	d := fresh(t, 3)
	m := opened(t, d, 2, "", 0)
	write(t, m, "a", api.OK)
	for range 3 {
		d.Write(0, []byte("else"))
		steps(t, m, "b", 1, false, api.OK)
		holds(t, d, 3, sectors{0: "else", 2: enc(1, "a")}, grounded(d, nil, 3), d.Pending())
		steps(t, m, "b", 2, false, api.OK)
		holds(t, d, 3, sectors{0: "else", 2: enc(1, "a")}, sectors{0: "else", 2: enc(1, "a")}, 0)
		d.Write(0, []byte("else"))
		write(t, m, "b", api.ErrDiskSector)
		steps(t, m, "b", 3, false, api.ErrDiskSector)
		is(t, m, 1)
		holds(t, d, 3, sectors{0: "else", 2: enc(1, "a")}, sectors{0: "else", 2: enc(1, "a")}, 0)
		opened(t, d, 2, "a", 1)
	}
	for _, at := range []int{3, 4, 65534} {
		d.Write(0, []byte("more"))
		m := opened(t, d, at, "", 0)
		steps(t, m, "", 2, false, api.OK)
		steps(t, m, "", 3, false, api.ErrDiskSector)
		write(t, m, "b", api.ErrDiskSector)
		is(t, m, 0)
		holds(t, d, 3, sectors{0: "more", 2: enc(1, "a")}, sectors{0: "more", 2: enc(1, "a")}, 0)
	}
}

// plain is a meta page in the plainest way: the sector of the last completed write is -1 if there is none.
type plain struct {
	d      *disk.Disk
	at     int
	sector int
	number uint64
}

func (p *plain) steps(body string, n int) (bool, api.Errno) {
	if len(body) > 480 {
		return false, api.ErrMetaLong
	}
	sector, number := p.at, uint64(1)
	if p.sector >= 0 {
		sector, number = 2*p.at+1-p.sector, p.number+1
	}
	if n >= 1 {
		if _, e := p.d.Read(sector); e == api.OK {
			p.d.Free(sector)
		}
	}
	if n >= 2 {
		p.d.Sync()
	}
	if n >= 3 {
		if e := p.d.Write(sector, []byte(enc(number, body))); e != api.OK {
			return false, e
		}
	}
	if n >= 4 {
		p.d.Sync()
		p.sector, p.number = sector, number
	}
	return n >= 4, api.OK
}

func (p *plain) open() string {
	p.sector, p.number = -1, 0
	body := ""
	for _, i := range []int{p.at + 1, p.at} {
		b, e := p.d.Read(i)
		r, _, _ := record.Get(b)
		if e == api.OK && string(b) == enc(r.Seq, r.Body) && r.Seq > 0 && r.Seq >= p.number {
			p.sector, p.number, body = i, r.Seq, r.Body
		}
	}
	return body
}

// pair is a meta page with the plain one, each on a disk of its own.
type pair struct {
	m *Meta
	d *disk.Disk
	p *plain
}

func paired(t testing.TB, held sectors) *pair {
	t.Helper()
	x := &pair{d: laid(t, size, held), p: &plain{d: laid(t, size, held), at: at}}
	x.open(t)
	return x
}

func (x *pair) open(t testing.TB) {
	t.Helper()
	body := x.p.open()
	x.m = opened(t, x.d, at, body, x.p.number)
}

// both does something to both disks.
func (x *pair) both(do func(d *disk.Disk)) {
	do(x.d)
	do(x.p.d)
}

func (x *pair) steps(t testing.TB, body string, n int) {
	t.Helper()
	done, e := x.p.steps(body, n)
	steps(t, x.m, body, n, done, e)
}

func (x *pair) write(t testing.TB, body string) {
	t.Helper()
	_, e := x.p.steps(body, 4)
	write(t, x.m, body, e)
}

// actions is how many actions act knows.
const actions = 14

// act does an action to both, and holds them against each other.
func (x *pair) act(t testing.TB, action int, body string) {
	t.Helper()
	switch action {
	case 0:
		x.write(t, body)
	case 1:
		x.write(t, strings.Repeat(body, 481))
	case 2, 3, 4, 5, 6:
		x.steps(t, body, action-2)
	case 7:
		x.open(t)
	case 8:
		x.both(func(d *disk.Disk) { d.Crash(nil) })
	case 9:
		x.both(func(d *disk.Disk) { d.Crash([]api.Survivor{{Write: 0, Bytes: 512}}) })
	case 10:
		x.both(func(d *disk.Disk) { d.Crash([]api.Survivor{{Write: d.Pending() - 1, Bytes: 6}}) })
	case 11:
		x.both(func(d *disk.Disk) { d.Write(0, []byte(body)) })
	case 12:
		x.both(func(d *disk.Disk) { d.Limit(d.Used()) })
	case 13:
		x.both(func(d *disk.Disk) { d.Limit(size) })
	}
	is(t, x.m, x.p.number)
	same(t, x.d, x.p.d, size)
}

// starts are contents of the two sectors.
func starts() []sectors {
	return []sectors{
		{},
		{at: enc(1, "a")},
		{at: enc(1, "a"), at + 1: enc(2, "b")},
		{at: enc(9, "a"), at + 1: enc(8, "b")},
		{at: enc(9, "a"), at + 1: enc(9, "b")},
		{at: "torn", at + 1: enc(8, "b")},
		{at: "", at + 1: ""},
		{at: enc(8, body(480)), at + 1: enc(7, body(300))},
		{at: enc(math.MaxUint64, "a"), at + 1: enc(math.MaxUint64-1, "b")},
	}
}

// TestPlain does all sequences of some actions.
func TestPlain(t *testing.T) {
	const many = 3
	for _, held := range starts() {
		for k := range actions * actions * actions {
			x := paired(t, held)
			for i := range many {
				x.act(t, k%actions, "xyz"[i:i+1])
				k /= actions
			}
		}
	}
}

// TestPlainLong does long sequences of such actions.
func TestPlainLong(t *testing.T) {
	r := rand.New(rand.NewPCG(12, 1))
	for i := range 1500 {
		x := paired(t, starts()[i%len(starts())])
		for range 60 {
			x.act(t, r.IntN(actions), strings.Repeat("q", r.IntN(4)))
		}
	}
}

// P12.3

// survivors are all the ways in which pending operations survive: each is lost, torn after some bytes, or complete.
func survivors(pending int, bytes []int) [][]api.Survivor {
	ways := [][]api.Survivor{nil}
	for i := range pending {
		for _, l := range slices.Clone(ways) {
			for _, b := range bytes {
				ways = append(ways, append(slices.Clone(l), api.Survivor{Write: i, Bytes: b}))
			}
		}
	}
	return ways
}

// TestCrash crashes after each number of steps, at every byte of the write: the string is the new one just if the write survives completely.
func TestCrash(t *testing.T) {
	var bytes []int
	for n := -1; n <= 513; n++ {
		bytes = append(bytes, n)
	}
	for _, held := range starts()[:8] {
		for _, b := range []string{"", "new", body(480)} {
			for n := range 5 {
				d := laid(t, size, held)
				m, old, e := Open(d, at)
				before := m.Number()
				if before == 0 && e != api.ErrMetaNone {
					t.Fatal(e)
				}
				steps(t, m, b, n, n == 4, api.OK)
				whole := len(enc(before+1, b))
				for _, l := range survivors(d.Pending(), bytes) {
					c := d.Copy()
					c.Crash(l)
					if n == 4 || n == 3 && len(l) == 1 && l[0].Bytes >= whole {
						goes(t, c, opened(t, c, at, b, before+1))
					} else {
						goes(t, c, opened(t, c, at, old, before))
					}
				}
			}
		}
	}
}

// goes holds that a meta page that was opened after a crash goes on as any other.
func goes(t *testing.T, d *disk.Disk, m *Meta) {
	t.Helper()
	number := m.Number()
	write(t, m, "more", api.OK)
	d.Crash(nil)
	opened(t, d, at, "more", number+1)
}

// TestCrashAgain does steps, errors and crashes, and goes on with what the crash left: it is the last completed string, or one that was begun since.
func TestCrashAgain(t *testing.T) {
	r := rand.New(rand.NewPCG(12, 3))
	olds, news := 0, 0
	for range 2000 {
		d := fresh(t, size)
		m := opened(t, d, at, "", 0)
		old := ""
		for k := range 12 {
			begun := []string{old}
			for i := range r.IntN(4) {
				if r.IntN(5) == 0 {
					d.Limit(d.Used() - r.IntN(2))
				}
				b := strings.Repeat(fmt.Sprint(k, i, " "), 1+r.IntN(80))
				done, e := m.Steps(b, r.IntN(6))
				d.Limit(size)
				switch {
				case done:
					old, begun = b, []string{b}
				case e == api.OK || e == api.ErrDiskFull:
					begun = append(begun, b)
				default:
					t.Fatal(e)
				}
			}
			ways := survivors(d.Pending(), []int{0, 1, 11, 100, 512})
			d.Crash(ways[r.IntN(len(ways))])
			number := m.Number()
			again, s, _ := Open(d, at)
			if s != old {
				number++
			}
			if !slices.Contains(begun, s) || again.Number() != number {
				t.Fatalf("%.60q with the number %d; want one of %.200q, and the number %d", s, again.Number(), begun, number)
			}
			if s == old {
				olds++
			} else {
				news++
			}
			if r.IntN(3) > 0 || s != old { // otherwise the meta page that was there before goes on
				m, old = again, s
			}
		}
	}
	if olds < 1000 || news < 500 {
		t.Errorf("%d old and %d new strings: too few to tell", olds, news)
	}
}

// P1: every call ends without a panic, leaves what it is given alone, and answers new memory.

// TestBeside has meta pages side by side: each has its own two sectors, and a sync is a sync of all.
func TestBeside(t *testing.T) {
	d := fresh(t, 6)
	var l []*Meta
	for i := range 3 {
		l = append(l, opened(t, d, 2*i, "", 0))
	}
	for k := range 7 {
		for i, m := range l {
			write(t, m, strings.Repeat("abc"[i:i+1], k), api.OK)
		}
	}
	steps(t, l[0], "synced", 3, false, api.OK)
	steps(t, l[1], "lost", 3, false, api.OK) // its second step syncs what the other one wrote
	is(t, l[0], 7)
	d.Crash(nil)
	opened(t, d, 0, "synced", 8)
	opened(t, d, 2, "bbbbbb", 7)
	opened(t, d, 4, "cccccc", 7)
}

// TestApart opens a meta page twice, on a disk and on its copy.
func TestApart(t *testing.T) {
	d := fresh(t, size)
	m := opened(t, d, at, "", 0)
	write(t, m, "a", api.OK)
	c := d.Copy()
	n := opened(t, c, at, "a", 1)
	write(t, m, "b", api.OK)
	write(t, m, "c", api.OK)
	is(t, n, 1)
	opened(t, c, at, "a", 1)
	write(t, n, "d", api.OK)
	is(t, m, 3)
	opened(t, d, at, "c", 3)
	opened(t, c, at, "d", 2)
}

// TestMemory holds that a string is kept by neither side.
func TestMemory(t *testing.T) {
	d := fresh(t, size)
	m := opened(t, d, at, "", 0)
	b := []byte("abc")
	write(t, m, string(b), api.OK)
	clear(b)
	_, s, _ := Open(d, at)
	d.Free(at)
	d.Sync()
	if s != "abc" {
		t.Errorf("the string became %q", s)
	}
}

// TestMany writes a great number of strings.
func TestMany(t *testing.T) {
	d := fresh(t, 65536)
	m := opened(t, d, 65534, "", 0)
	for i := range 200000 {
		write(t, m, fmt.Sprint(i), api.OK)
	}
	opened(t, d, 65534, "199999", 200000)
	if d.Used() != 2 || d.Pending() != 0 {
		t.Errorf("%d sectors are in use, %d operations are pending", d.Used(), d.Pending())
	}
}

package wal

import (
	"fmt"
	"maps"
	"math"
	"math/rand/v2"
	"slices"
	"strings"
	"testing"

	"lapstone/api"
	"lapstone/disk"
	"lapstone/record"
)

// far are numbers that are far off.
var far = []int{math.MinInt, math.MinInt + 1, -65537, -1, 65537, 1 << 31, 1 << 32, 1 << 58, math.MaxInt - 1, math.MaxInt}

func body(n int) string { return strings.Repeat("x", n) }

// put is the encoding of a record.
func put(seq uint64, body string) string {
	b, e := record.Put(api.Record{Seq: seq, Body: body})
	if e != api.OK {
		panic("a body that is too long")
	}
	return string(b)
}

// seg is the bytes of a segment with a base and with records of these bodies.
func seg(base uint64, bodies ...string) string {
	s := put(base, "segment")
	for i, b := range bodies {
		s += put(base+uint64(i), b)
	}
	return s
}

// parts is what the sectors hold that some bytes are written to.
func parts(s string) []string {
	var l []string
	for len(s) > 512 {
		l, s = append(l, s[:512]), s[512:]
	}
	return append(l, s)
}

func fresh(t *testing.T, sectors int) *disk.Disk {
	t.Helper()
	d, e := disk.New(sectors)
	if e != api.OK {
		t.Fatal(e)
	}
	return d
}

// lay writes bytes to the sectors from one on, without a sync.
func lay(t *testing.T, d *disk.Disk, at int, s string) {
	t.Helper()
	for i, p := range parts(s) {
		if e := d.Write(at+i, []byte(p)); e != api.OK {
			t.Fatal(at+i, e)
		}
	}
}

// contents is what the used ones of the first n sectors hold.
func contents(d *disk.Disk, n int) map[int]string {
	m := map[int]string{}
	for i := range n {
		if b, e := d.Read(i); e == api.OK {
			m[i] = string(b)
		}
	}
	return m
}

// holds checks what the disk has in the first sectors, and that nothing else is in use.
func holds(t *testing.T, d *disk.Disk, n int, want map[int]string) {
	t.Helper()
	if got := contents(d, n); !maps.Equal(got, want) || d.Used() != len(want) {
		t.Fatalf("the disk has %d used sectors: %.400q; want %.400q", d.Used(), fmt.Sprint(got), fmt.Sprint(want))
	}
}

// opened opens a log that is to have the records with these bodies behind from.
func opened(t *testing.T, d *disk.Disk, at, segments, sectors int, from uint64, bodies ...string) *Log {
	t.Helper()
	l, r, e := Open(d, at, segments, sectors, from)
	if e != api.OK || l == nil {
		t.Fatal("Open", e)
	}
	if want := records(from+1, bodies...); !slices.Equal(r, want) {
		t.Fatalf("Open from %d found %.200v; want %.200v", from, fmt.Sprint(r), fmt.Sprint(want))
	}
	return l
}

// records is records with these bodies and with consecutive numbers.
func records(first uint64, bodies ...string) []api.Record {
	var l []api.Record
	for i, b := range bodies {
		l = append(l, api.Record{Seq: first + uint64(i), Body: b})
	}
	return l
}

// is checks what a log tells.
func is(t *testing.T, l *Log, last, synced uint64, live int) {
	t.Helper()
	if l.Last() != last || l.Synced() != synced || l.Live() != live {
		t.Fatalf("last %d, synced %d, live %d; want %d, %d, %d", l.Last(), l.Synced(), l.Live(), last, synced, live)
	}
}

// add appends a record that is to have a number.
func add(t *testing.T, l *Log, body string, want uint64) {
	t.Helper()
	if n, e := l.Append(body); n != want || e != api.OK {
		t.Fatalf("Append of %d bytes = %d, %d; want %d", len(body), n, e, want)
	}
}

// refused appends a record that is to fail.
func refused(t *testing.T, l *Log, body string, want api.Errno) {
	t.Helper()
	if n, e := l.Append(body); n != 0 || e != want {
		t.Fatalf("Append of %d bytes = %d, %d; want error %d", len(body), n, e, want)
	}
}

func truncate(t *testing.T, l *Log, seq uint64, want api.Errno) {
	t.Helper()
	if e := l.Truncate(seq); e != want {
		t.Fatalf("Truncate(%d) = %d; want %d", seq, e, want)
	}
}

// P8.1

func TestExample(t *testing.T) {
	d := fresh(t, 2)
	l := opened(t, d, 0, 2, 1, 0)
	add(t, l, "a", 1)
	add(t, l, "b", 2)
	l.Sync()
	d.Crash(nil)
	is(t, opened(t, d, 0, 2, 1, 1, "b"), 2, 2, 1)
}

func TestOpenPlace(t *testing.T) {
	d := fresh(t, 9)
	lay(t, d, 3, seg(1, "a"))
	for _, x := range append([]int{0, 1}, far...) {
		for _, y := range append([]int{0}, far...) {
			for _, place := range [][3]int{{0, x, 1}, {0, 2, y}, {-1, 2, 1}, {0, x, y}, {y, x, 1}, {x, 2, y}, {y, x, y}} {
				if l, r, e := Open(d, place[0], place[1], place[2], 0); l != nil || r != nil || e != api.ErrWalPlace {
					t.Fatal(place, l, r, e)
				}
			}
		}
	}
	for _, at := range far {
		for _, n := range []int{1, 64} {
			if l, r, e := Open(d, at, 64, n, 0); l != nil || r != nil || e != api.ErrWalPlace {
				t.Fatal(at, n, l, r, e)
			}
		}
	}
	if holds(t, d, 9, map[int]string{3: seg(1, "a")}); d.Pending() != 1 {
		t.Fatal("an Open that failed changed the disk")
	}
}

// TestOpenEdge holds both sides of each edge of the places.
func TestOpenEdge(t *testing.T) {
	d := fresh(t, 1)
	for _, x := range []struct {
		at, segments, sectors int
		want                  api.Errno
	}{
		{0, 1, 1, api.ErrWalPlace}, {0, 2, 1, 0}, {0, 64, 1, 0}, {0, 65, 1, api.ErrWalPlace},
		{0, 2, 0, api.ErrWalPlace}, {0, 2, 64, 0}, {0, 2, 65, api.ErrWalPlace}, {0, 64, 64, 0},
		{65534, 2, 1, 0}, {65535, 2, 1, api.ErrWalPlace}, {65536, 2, 1, api.ErrWalPlace},
		{65533, 3, 1, 0}, {65534, 3, 1, api.ErrWalPlace}, {65532, 2, 2, 0}, {65533, 2, 2, api.ErrWalPlace},
		{65536 - 4096, 64, 64, 0}, {65537 - 4096, 64, 64, api.ErrWalPlace}, {-1, 2, 1, api.ErrWalPlace},
	} {
		l, r, e := Open(d, x.at, x.segments, x.sectors, 7)
		if (l == nil) != (e != api.OK) || r != nil || e != x.want {
			t.Errorf("%v: %v, %v, %d", x, l, r, e)
		}
		if e == api.OK {
			is(t, l, 7, 7, 0)
		}
	}
}

// TestOpenRule opens a log of four segments of two sectors that hold bytes, from a number on; the log is to have these records, and these segments in use.
func TestOpenRule(t *testing.T) {
	long, gap := body(480), body(512)
	for i, x := range []struct {
		segs   [4]string
		from   uint64
		first  uint64
		bodies []string
		used   []int
	}{
		{from: 0}, {from: 9},
		{segs: [4]string{seg(1, "a", "b")}, from: 0, bodies: []string{"a", "b"}, used: []int{0}},
		{segs: [4]string{seg(1, "a", "b")}, from: 1, bodies: []string{"b"}, used: []int{0}},
		{segs: [4]string{seg(1, "a", "b")}, from: 2, used: []int{0}}, // base 1 and two records: 3 is from + 1
		{segs: [4]string{seg(1, "a", "b")}, from: 3},
		{segs: [4]string{seg(2, "a", "b")}, from: 0}, // base 2 is beyond from + 1
		{segs: [4]string{seg(2, "a", "b")}, from: 1, bodies: []string{"a", "b"}, used: []int{0}},
		{segs: [4]string{seg(0, "z", "a")}, from: 0, bodies: []string{"a"}, used: []int{0}},
		{segs: [4]string{seg(0, "z", "a")}, from: 1, used: []int{0}},
		{segs: [4]string{seg(0, "z")}, from: 0, used: []int{0}},
		{segs: [4]string{seg(0)}, from: 0},
		{segs: [4]string{2: seg(1)}, from: 0, used: []int{2}}, // a segment without records
		{segs: [4]string{2: seg(1)}, from: 1},
		{segs: [4]string{2: seg(2)}, from: 1, used: []int{2}},
		// the greatest base, and of several the lowest index
		{segs: [4]string{seg(1, "a", "b", "c"), seg(3, "C", "D"), seg(2, "y")}, from: 2, bodies: []string{"C", "D"}, used: []int{1}},
		{segs: [4]string{seg(1, "a", "b", "c"), seg(4, "C", "D"), seg(2, "y")}, from: 2, used: []int{2}},
		{segs: [4]string{seg(3, "c"), seg(3, "C", "D"), seg(1, "a", "b")}, from: 2, bodies: []string{"c"}, used: []int{0}},
		{segs: [4]string{seg(1, "a", "b"), seg(3, "C", "D"), seg(3, "c")}, from: 2, bodies: []string{"C", "D"}, used: []int{1}},
		{segs: [4]string{seg(1, "a", "b", "c"), seg(3)}, from: 2, used: []int{1}}, // the record 3 is given up
		{segs: [4]string{seg(1, "a", "b", "c"), seg(2, "B")}, from: 2, used: []int{1}},
		{segs: [4]string{seg(1, "a", "b", "c"), seg(2, "B")}, from: 0, bodies: []string{"a", "b", "c"}, used: []int{0}},
		// what follows
		{segs: [4]string{seg(4, "d"), seg(1, "a"), seg(2, "b", "c")}, from: 0, bodies: []string{"a", "b", "c", "d"}, used: []int{1, 2, 0}},
		{segs: [4]string{seg(4, "d"), seg(1, "a"), seg(2, "b", "c")}, from: 1, bodies: []string{"b", "c", "d"}, used: []int{2, 0}},
		{segs: [4]string{seg(4, "d"), seg(1, "a"), seg(2, "b", "c")}, from: 2, bodies: []string{"c", "d"}, used: []int{2, 0}},
		{segs: [4]string{seg(4, "d"), seg(1, "a"), seg(2, "b", "c")}, from: 3, bodies: []string{"d"}, used: []int{0}},
		{segs: [4]string{seg(4, "d"), seg(1, "a"), seg(2, "b", "c")}, from: 4, used: []int{0}},
		{segs: [4]string{seg(4, "d"), seg(1, "a"), seg(2, "b", "c")}, from: 5},
		{segs: [4]string{seg(4, "d"), seg(1, "a"), seg(3, "c")}, from: 0, bodies: []string{"a"}, used: []int{1}},
		{segs: [4]string{seg(2, "b"), seg(2, "B", "C"), seg(1, "a"), seg(3, "c")}, from: 0, bodies: []string{"a", "b", "c"}, used: []int{2, 0, 3}},
		{segs: [4]string{seg(2, "B", "C"), seg(2, "b"), seg(1, "a"), seg(3, "c")}, from: 0, bodies: []string{"a", "B", "C"}, used: []int{2, 0}},
		// a segment without records does not end the search, and more of them may follow
		{segs: [4]string{seg(2), seg(1, "a"), seg(2), seg(2, "b")}, from: 0, bodies: []string{"a", "b"}, used: []int{1, 0, 2, 3}},
		{segs: [4]string{seg(2, "b"), seg(1, "a"), seg(2), seg(3)}, from: 0, bodies: []string{"a", "b"}, used: []int{1, 0, 3}},
		{segs: [4]string{seg(1), seg(1), seg(1, "a"), seg(1)}, from: 0, bodies: []string{"a"}, used: []int{0, 1, 2}},
		{segs: [4]string{seg(2), seg(2), seg(1, "a")}, from: 1, used: []int{0, 1}},
		// what no record, or the wrong one, stands in front of
		{segs: [4]string{put(1, "Segment") + put(1, "a"), put(1, "") + put(1, "a"), put(1, "segment\x00") + put(1, "a"), put(1, "segmen") + put(1, "a")}},
		{segs: [4]string{"", "x", seg(1, "a")[1:], put(1, "a") + seg(1, "a")}},
		{segs: [4]string{seg(1)[:16], "\x00" + seg(1), seg(1)[:8] + "S" + seg(1)[9:] + put(1, "a"), put(1, "a")}},
		// where the records end
		{segs: [4]string{seg(1, "a", "b") + "x"}, bodies: []string{"a", "b"}, used: []int{0}},
		{segs: [4]string{seg(1, "a") + put(3, "c")}, bodies: []string{"a"}, used: []int{0}},
		{segs: [4]string{seg(1) + put(2, "a")}, used: []int{0}},
		{segs: [4]string{seg(1, "a") + seg(2, "b")}, bodies: []string{"a", "segment"}, used: []int{0}},
		{segs: [4]string{seg(1, "segment", "a")}, bodies: []string{"segment", "a"}, used: []int{0}},
		{segs: [4]string{seg(1, "a") + put(2, "b")[:10] + put(2, "b")}, bodies: []string{"a"}, used: []int{0}},
		{segs: [4]string{seg(1, "a", long)}, bodies: []string{"a", long}, used: []int{0}},
		{segs: [4]string{seg(1, "a", long, "b")}, bodies: []string{"a", long, "b"}, used: []int{0}},
		{segs: [4]string{seg(1, "a", long, gap)[:1024]}, bodies: []string{"a", long}, used: []int{0}},
		{segs: [4]string{seg(1, "a", gap, long)[:1024], seg(3, "b")}, bodies: []string{"a", gap, "b"}, used: []int{0, 1}},
		{segs: [4]string{seg(1, "")}, bodies: []string{""}, used: []int{0}},
		// numbers of more than a byte
		{segs: [4]string{seg(300, "b"), seg(299, "a"), seg(301, "c")}, from: 298, bodies: []string{"a", "b", "c"}, used: []int{1, 0, 2}},
		{segs: [4]string{seg(1<<63, "b"), seg(1<<63-1, "a")}, from: 1<<63 - 2, bodies: []string{"a", "b"}, used: []int{1, 0}},
	} {
		d := fresh(t, 20)
		want := map[int]string{}
		for j, s := range x.segs {
			if s == "" && i%2 == 0 {
				continue // the first sector is not in use; else it has no bytes
			}
			lay(t, d, 3+2*j, s)
			if slices.Contains(x.used, j) {
				for k, p := range parts(s) {
					want[3+2*j+k] = p
				}
			}
		}
		lay(t, d, 2, "front")
		lay(t, d, 11, "behind")
		want[2], want[11] = "front", "behind"
		l := opened(t, d, 3, 4, 2, x.from, x.bodies...)
		last := x.from + uint64(len(x.bodies))
		is(t, l, last, last, len(x.used))
		if holds(t, d, 20, want); d.Pending() != 0 {
			t.Fatal(i, "Open did not sync")
		}
		for j, e := range l.used {
			if e.index != x.used[j] {
				t.Fatalf("%d: segments %v are in use; want %v", i, l.used, x.used)
			}
		}
	}
}

// TestOpenBytes holds where the bytes of a segment end, and that of an unused segment all used sectors are freed, of a used one none.
func TestOpenBytes(t *testing.T) {
	s := parts(seg(1, body(400), body(500), body(400)))
	if len(s) != 3 || len(s[2]) == 0 {
		t.Fatal("not three sectors")
	}
	for i, x := range []struct {
		sectors []string // "-" is not in use
		bodies  int
	}{
		{[]string{s[0], s[1], s[2]}, 3},
		{[]string{s[0], s[1], s[2], "z"}, 3},
		{[]string{s[0], s[1], s[2][:1], s[2][1:]}, 2},
		{[]string{s[0], s[1], "", s[2]}, 2},
		{[]string{s[0], s[1], "-", s[2]}, 2},
		{[]string{s[0], "-", s[1], s[2]}, 1},
		{[]string{s[0], "", s[1], s[2]}, 1},
		{[]string{s[0], s[1][:511], s[1][511:] + s[2]}, 2},
		{[]string{s[0], "-", "-", "z"}, 1},
		{[]string{s[0][:511], s[0][511:] + s[1][:511]}, 1},
		{[]string{s[0][:400], s[1], s[2]}, 0},
		{[]string{"-", s[0], s[1], s[2]}, -1},
		{[]string{"", s[0], s[1], s[2]}, -1},
		{[]string{s[1], "-", "", "z"}, -1},
		{[]string{"-", "-", "-", "z"}, -1},
		{[]string{"x", "-", "y", "-"}, -1},
	} {
		for place := range 2 {
			d := fresh(t, 8)
			want := map[int]string{}
			for j, c := range x.sectors {
				if c == "-" {
					continue
				}
				lay(t, d, 4*place+j, c)
				if x.bodies >= 0 {
					want[4*place+j] = c
				}
			}
			l := opened(t, d, 0, 2, 4, 0, []string{body(400), body(500), body(400)}[:max(x.bodies, 0)]...)
			if holds(t, d, 8, want); d.Pending() != 0 {
				t.Fatal(i, "Open did not sync")
			}
			d.Crash(nil)
			holds(t, d, 8, want)
			is(t, l, uint64(max(x.bodies, 0)), uint64(max(x.bodies, 0)), min(1, x.bodies+1))
		}
	}
}

// TestOpenSync holds that Open syncs the whole disk, even if it frees nothing.
func TestOpenSync(t *testing.T) {
	d := fresh(t, 9)
	lay(t, d, 0, seg(1, "a"))
	lay(t, d, 8, "else")
	is(t, opened(t, d, 0, 2, 1, 0, "a"), 1, 1, 1)
	d.Crash(nil)
	holds(t, d, 9, map[int]string{0: seg(1, "a"), 8: "else"})
}

// TestOpenNoCurrent holds that the first record behind an Open begins a segment.
func TestOpenNoCurrent(t *testing.T) {
	d := fresh(t, 4)
	add(t, opened(t, d, 0, 2, 2, 0), "a", 1)
	l := opened(t, d, 0, 2, 2, 0, "a")
	add(t, l, "b", 2)
	is(t, l, 2, 1, 2)
	holds(t, d, 4, map[int]string{0: seg(1, "a"), 2: seg(2, "b")})
	refused(t, opened(t, d, 0, 2, 2, 0, "a", "b"), "c", api.ErrWalFull)
	l = opened(t, d, 0, 2, 2, 1, "b")
	is(t, l, 2, 2, 1)
	add(t, l, "c", 3)
	holds(t, d, 4, map[int]string{0: seg(3, "c"), 2: seg(2, "b")})
}

// TestOpenShort opens a log on a disk that has some of its sectors only.
func TestOpenShort(t *testing.T) {
	d := fresh(t, 3)
	l := opened(t, d, 1, 64, 2, 0)
	add(t, l, body(900), 1)
	refused(t, l, body(900), api.ErrDiskSector)
	refused(t, l, "a", 0+api.ErrDiskSector)
	is(t, l, 1, 1, 1)
	l = opened(t, d, 1, 64, 2, 0, body(900))
	refused(t, l, "a", api.ErrDiskSector)
	truncate(t, l, 1, api.OK)
	add(t, l, "a", 2)
	far := opened(t, fresh(t, 3), 60000, 2, 1, 0)
	refused(t, far, "a", api.ErrDiskSector)
	is(t, far, 0, 0, 0)
}

// found is the rule of P8.1 for the valid ones of some segments by index, as it is written: the segments in use and the last number.
func found(bases, counts []uint64, valid []bool, from uint64) ([]int, uint64) {
	last := from
	var used []int
	best := -1
	for i, b := range bases {
		if valid[i] && b <= from+1 && b+counts[i] >= from+1 && (best < 0 || b > bases[best]) {
			best = i
		}
	}
	for best >= 0 {
		used = append(used, best)
		last = bases[best] + counts[best] - 1
		best = -1
		for i := len(bases) - 1; i >= 0; i-- {
			if valid[i] && bases[i] == last+1 && !slices.Contains(used, i) {
				best = i
			}
		}
	}
	return used, last
}

// TestOpenAll opens a log of three segments of every base from 0 to 4 with up to two records, or without a header, from every number up to 4.
func TestOpenAll(t *testing.T) {
	kinds := 5*3 + 1
	for n := range kinds * kinds * kinds {
		bases, counts, valid := make([]uint64, 3), make([]uint64, 3), make([]bool, 3)
		bytes := make([]string, 3)
		for i, k := range []int{n % kinds, n / kinds % kinds, n / kinds / kinds} {
			bases[i], counts[i], valid[i], bytes[i] = uint64(k/3), uint64(k%3), k < 15, "none"
			if valid[i] {
				l := []string{fmt.Sprint(i, bases[i]), fmt.Sprint(i, bases[i]+1)}
				bytes[i] = seg(bases[i], l[:counts[i]]...)
			}
		}
		for from := range uint64(5) {
			d := fresh(t, 3)
			for i := range bytes {
				lay(t, d, i, bytes[i])
			}
			used, last := found(bases, counts, valid, from)
			want := map[int]string{}
			var bodies []string
			for _, i := range used {
				want[i] = bytes[i]
				for j := range counts[i] {
					if bases[i]+j > from {
						bodies = append(bodies, fmt.Sprint(i, bases[i]+j))
					}
				}
			}
			l := opened(t, d, 0, 3, 1, from, bodies...)
			is(t, l, last, last, len(used))
			holds(t, d, 3, want)
		}
	}
}

// P8.2

// TestAppendBytes holds what stands on the disk, and that only the sectors are written whose contents change, in their order.
func TestAppendBytes(t *testing.T) {
	d := fresh(t, 20)
	l := opened(t, d, 5, 2, 4, 0)
	bodies := []string{"a", "", body(3), body(441), "z", body(700), body(492), "q", "r"}
	pending := 0
	for i, b := range bodies {
		old := len(seg(1, bodies[:i]...))
		if i == 0 {
			old = 0
		}
		add(t, l, b, uint64(i+1))
		is(t, l, uint64(i+1), 0, 1)
		s := seg(1, bodies[:i+1]...)
		pending += len(parts(s)) - old/512
		want := map[int]string{}
		for j, p := range parts(s) {
			want[5+j] = p
		}
		if holds(t, d, 20, want); d.Pending() != pending {
			t.Fatalf("record %d: %d operations; want %d", i+1, d.Pending(), pending)
		}
		for n := range len(parts(s)) - old/512 { // of the sectors of this record the first n
			c := d.Copy()
			var l []api.Survivor
			for k := range pending - (len(parts(s)) - old/512) + n {
				l = append(l, api.Survivor{Write: k, Bytes: 512})
			}
			c.Crash(l)
			got := ""
			for k := range 4 {
				b, _ := c.Read(5 + k)
				got += string(b)
			}
			if want := s[:max(old, min(len(s), (old/512+n)*512))]; got != want {
				t.Fatalf("record %d: after %d sectors there are %d bytes; want %d", i+1, n, len(got), len(want))
			}
		}
	}
}

// TestAppendSector fills a sector to its end: the next record begins in the next one, and the full one is not written again.
func TestAppendSector(t *testing.T) {
	for short := range 3 {
		d := fresh(t, 8)
		l := opened(t, d, 0, 2, 4, 0)
		add(t, l, body(484-short), 1) // 17 bytes, and 11 beside the body
		add(t, l, "b", 2)
		want := map[int]string{}
		for i, p := range parts(seg(1, body(484-short), "b")) {
			want[i] = p
		}
		holds(t, d, 8, want)
		if n := d.Pending(); n != 2+min(short, 1) {
			t.Errorf("%d bytes short: %d writes", short, n)
		}
	}
}

// TestAppendLong holds both sides of the longest body, by hand: the header has 17 bytes (18 from 128 on), the body's neighbours have 10 to 13.
func TestAppendLong(t *testing.T) {
	for _, x := range []struct {
		sectors int
		from    uint64
		most    int
	}{{1, 0, 484}, {1, 126, 484}, {1, 127, 482}, {1, 16382, 482}, {1, 16383, 480}, {2, 0, 996}, {3, 0, 1508}, {32, 0, 16356}, {33, 0, 16867}, {64, 0, 32739}, {64, 1 << 62, 32723}} {
		d := fresh(t, 128)
		l := opened(t, d, 0, 2, x.sectors, x.from)
		for _, n := range []int{x.most + 1, x.most + 2, 32767, 32768, 32769, 65536, 65537, 1 << 20} {
			if n > x.most {
				refused(t, l, body(n), api.ErrWalLong)
			}
		}
		is(t, l, x.from, x.from, 0)
		if d.Used() != 0 || d.Pending() != 0 {
			t.Fatal("a body that is too long changed the disk")
		}
		add(t, l, body(x.most), x.from+1)
		if is(t, l, x.from+1, x.from, 1); d.Used() != x.sectors {
			t.Fatalf("%d sectors; want %d", d.Used(), x.sectors)
		}
		add(t, l, body(x.most-5), x.from+2)
		is(t, l, x.from+2, x.from, 2)
		refused(t, l, body(x.most+9), api.ErrWalLong) // this comes before ErrWalFull
		refused(t, l, "", api.ErrWalFull)
		is(t, opened(t, d, 0, 2, x.sectors, x.from, body(x.most), body(x.most-5)), x.from+2, x.from+2, 2)
	}
}

// TestAppendRest holds both sides of what fits into the rest of the current segment.
func TestAppendRest(t *testing.T) {
	for _, x := range []struct{ more, live int }{{-1, 1}, {0, 1}, {1, 2}, {2, 2}} {
		d := fresh(t, 6)
		l := opened(t, d, 0, 3, 2, 0)
		add(t, l, body(500), 1)        // 17 + 511 + 10 + 486 are 1024
		add(t, l, body(485+x.more), 2) // 11 beside a body of more than 127 bytes
		is(t, l, 2, 0, x.live)
		want := seg(1, body(500), body(485+x.more))
		if x.live == 2 {
			want = seg(2, body(485+x.more))
		}
		if b := joined(d, 2*(x.live-1), 2); b != want {
			t.Fatalf("%d more: %.40q", x.more, b)
		}
	}
}

// joined is what some sectors hold together.
func joined(d *disk.Disk, at, n int) string {
	s := ""
	for i := range n {
		b, _ := d.Read(at + i)
		s += string(b)
	}
	return s
}

// TestAppendFull holds that a log without an unused segment stays as it is, and that a record that fits into the rest is still taken.
func TestAppendFull(t *testing.T) {
	d := fresh(t, 2)
	l := opened(t, d, 0, 2, 1, 0)
	add(t, l, body(480), 1)
	add(t, l, body(400), 2)
	before, n := contents(d, 2), d.Pending()
	refused(t, l, body(200), api.ErrWalFull)
	refused(t, l, body(75), api.ErrWalFull)
	refused(t, l, body(485), api.ErrWalLong)
	is(t, l, 2, 0, 2)
	if holds(t, d, 2, before); d.Pending() != n {
		t.Fatal("a log that is full changed the disk")
	}
	add(t, l, body(74), 3)
	refused(t, l, "", api.ErrWalFull)
	is(t, l, 3, 0, 2)
	holds(t, d, 2, map[int]string{0: seg(1, body(480)), 1: seg(2, body(400), body(74))})
	truncate(t, l, 1, api.OK)
	add(t, l, "", 4)
	holds(t, d, 2, map[int]string{0: seg(4, ""), 1: seg(2, body(400), body(74))})
}

// TestAppendLowest holds that of several unused segments the lowest is taken, and that the list keeps the order of the starts.
func TestAppendLowest(t *testing.T) {
	d := fresh(t, 4)
	l := opened(t, d, 0, 4, 1, 0)
	for i := range 4 {
		add(t, l, body(480), uint64(i+1))
	}
	truncate(t, l, 3, api.OK)
	add(t, l, body(470), 5)
	add(t, l, body(470), 6)
	truncate(t, l, 5, api.OK)
	is(t, l, 6, 6, 1)
	holds(t, d, 4, map[int]string{1: seg(6, body(470))})
	add(t, l, body(460), 7)
	add(t, l, body(460), 8)
	add(t, l, body(460), 9)
	holds(t, d, 4, map[int]string{0: seg(7, body(460)), 1: seg(6, body(470)), 2: seg(8, body(460)), 3: seg(9, body(460))})
	is(t, opened(t, d, 0, 4, 1, 6, body(460), body(460), body(460)), 9, 9, 3)
}

// TestAppendFails holds what a write that fails leaves, without a new segment and with one, by the writes that still work.
func TestAppendFails(t *testing.T) {
	for works := range 3 {
		d := fresh(t, 20)
		lay(t, d, 15, "else")
		l := opened(t, d, 2, 3, 4, 0)
		add(t, l, body(600), 1)
		l.Sync()
		add(t, l, body(10), 2)
		pending := d.Pending()
		d.Limit(3 + works) // two sectors and the one of somebody else
		s := seg(1, body(600), body(10), body(1300))
		want := map[int]string{15: "else", 2: s[:512], 3: s[512:1024]}
		for i := range works {
			want[4+i] = parts(s)[2+i]
		}
		if works == 2 {
			add(t, l, body(1300), 3)
			holds(t, d, 20, want)
			is(t, l, 3, 1, 1)
			continue
		}
		refused(t, l, body(1300), api.ErrDiskFull)
		is(t, l, 2, 1, 1)
		if holds(t, d, 20, want); d.Pending() != pending+1+works {
			t.Fatalf("%d operations; want %d: no sync", d.Pending(), pending+1+works)
		}
		d.Limit(20)
		add(t, l, "b", 3) // a new segment: there is no current one
		is(t, l, 3, 1, 2)
		want[6] = seg(3, "b")
		holds(t, d, 20, want)
		is(t, opened(t, d, 2, 3, 4, 0, body(600), body(10), "b"), 3, 3, 2)
	}
}

func TestAppendFailsNew(t *testing.T) {
	for works := range 4 {
		for _, current := range []bool{false, true} {
			d := fresh(t, 20)
			lay(t, d, 15, "else")
			l := opened(t, d, 2, 3, 4, 0)
			add(t, l, body(800), 1)
			if !current {
				l = opened(t, d, 2, 3, 4, 0, body(800))
			}
			want := contents(d, 20)
			lay(t, d, 15, "other") // pending, of somebody else
			want[15] = "other"
			d.Limit(3 + works)
			refused(t, l, body(1800), api.ErrDiskFull)
			is(t, l, 1, 1, 1)
			if holds(t, d, 20, want); d.Pending() != 0 {
				t.Fatalf("%d operations: no sync", d.Pending())
			}
			d.Crash(nil)
			holds(t, d, 20, want)
			d.Limit(20)
			add(t, l, "b", 2) // there is no current segment, though it would fit into the first one
			is(t, l, 2, 1, 2)
			want[6] = seg(2, "b")
			holds(t, d, 20, want)
		}
	}
}

// TestAppendFailsSector holds that the error is the disk's, not always that it is full.
func TestAppendFailsSector(t *testing.T) {
	d := fresh(t, 5)
	l := opened(t, d, 0, 2, 3, 0)
	add(t, l, body(1400), 1)
	refused(t, l, body(1400), api.ErrDiskSector)
	is(t, l, 1, 1, 1)
	if d.Used() != 3 {
		t.Errorf("%d sectors", d.Used())
	}
	d.Limit(0)
	refused(t, l, "a", api.ErrDiskFull)
	d.Limit(5)
	add(t, l, body(900), 2)
	refused(t, l, body(400), api.ErrDiskSector)
	is(t, l, 2, 1, 2)
	refused(t, l, "", api.ErrWalFull) // there is no current segment
}

// P8.3

// TestTruncate truncates a log with the records 1, 2 and 3 to 5 in three segments.
func TestTruncate(t *testing.T) {
	one, two, three := seg(1, body(900)), seg(2, body(900)), seg(3, body(300), "d", "e")
	for seq := range uint64(8) {
		d := fresh(t, 9)
		l := opened(t, d, 1, 3, 2, 0)
		for i, b := range []string{body(900), body(900), body(300), "d", "e"} {
			add(t, l, b, uint64(i+1))
		}
		lay(t, d, 7, "else")
		want := map[int]string{7: "else"}
		live := 0
		for i, s := range []string{one, two, three} {
			if seq > 5 || []uint64{1, 2, 5}[i] > seq {
				live++
				for j, p := range parts(s) {
					want[1+2*i+j] = p
				}
			}
		}
		if seq > 5 {
			n := d.Pending()
			truncate(t, l, seq, api.ErrWalSeq)
			is(t, l, 5, 0, 3)
			if holds(t, d, 9, want); d.Pending() != n {
				t.Fatal("a Truncate that failed synced")
			}
			add(t, l, "f", 6)
			is(t, l, 6, 0, 3)
			continue
		}
		truncate(t, l, seq, api.OK)
		is(t, l, 5, 5, live)
		if holds(t, d, 9, want); d.Pending() != 0 {
			t.Fatalf("%d operations: no sync", d.Pending())
		}
		d.Crash(nil)
		holds(t, d, 9, want)
		add(t, l, "f", 6)
		if seq < 5 { // the current segment is still there
			want[5] = seg(3, body(300), "d", "e", "f")
			is(t, l, 6, 5, live)
		} else {
			want[1] = seg(6, "f")
			is(t, l, 6, 5, 1)
		}
		holds(t, d, 9, want)
	}
}

// TestTruncateNone truncates where nothing is to be freed: the disk is synced all the same.
func TestTruncateNone(t *testing.T) {
	d := fresh(t, 4)
	l := opened(t, d, 0, 2, 1, 0)
	lay(t, d, 3, "else")
	truncate(t, l, 1, api.ErrWalSeq)
	truncate(t, l, math.MaxUint64, api.ErrWalSeq)
	if d.Pending() != 1 {
		t.Fatal("a Truncate that failed synced")
	}
	truncate(t, l, 0, api.OK)
	if is(t, l, 0, 0, 0); d.Pending() != 0 {
		t.Fatal("no sync")
	}
	add(t, l, "a", 1)
	truncate(t, l, 0, api.OK)
	if is(t, l, 1, 1, 1); d.Pending() != 0 {
		t.Fatal("no sync")
	}
	l = opened(t, d, 0, 2, 1, 9)
	is(t, l, 9, 9, 0)
	truncate(t, l, 10, api.ErrWalSeq)
	truncate(t, l, 9, api.OK)
	is(t, l, 9, 9, 0)
}

// TestTruncateEmpty holds that segments without records are freed, wherever they stand and whatever the number.
func TestTruncateEmpty(t *testing.T) {
	for _, x := range []struct {
		segs [4]string
		seq  uint64
		used []int
	}{
		{[4]string{seg(1), seg(1), seg(1, "a", "b"), seg(3)}, 0, []int{2}},
		{[4]string{seg(1), seg(1), seg(1, "a", "b"), seg(3)}, 1, []int{2}},
		{[4]string{seg(1), seg(1), seg(1, "a", "b"), seg(3)}, 2, nil},
		{[4]string{seg(1, "a"), seg(2), seg(2, "b"), seg(3)}, 0, []int{0, 2}},
		{[4]string{seg(1, "a"), seg(2), seg(2, "b"), seg(3)}, 1, []int{2}},
		{[4]string{seg(3), seg(2), seg(2, "b"), seg(1, "a")}, 1, []int{2}},
		{[4]string{seg(1), seg(1), seg(1), seg(1)}, 0, nil},
		{[4]string{seg(1, "a", "b"), seg(3), seg(3), seg(3)}, 1, []int{0}},
	} {
		d := fresh(t, 4)
		want := map[int]string{}
		for i, s := range x.segs {
			lay(t, d, i, s)
			if slices.Contains(x.used, i) {
				want[i] = s
			}
		}
		l, _, _ := Open(d, 0, 4, 1, 0)
		last := l.Last()
		if l.Live() != 4 {
			t.Fatal("not all segments are in use")
		}
		truncate(t, l, x.seq, api.OK)
		is(t, l, last, last, len(x.used))
		holds(t, d, 4, want)
		add(t, l, "z", last+1)
		is(t, l, last+1, last, len(x.used)+1)
		truncate(t, l, last, api.OK) // what is left of the old ones
		is(t, l, last+1, last+1, 1)
		truncate(t, l, last+1, api.OK)
		is(t, l, last+1, last+1, 0)
		holds(t, d, 4, map[int]string{})
	}
}

// TestTruncateAll holds that of a freed segment all used sectors are freed, even those behind its bytes.
func TestTruncateAll(t *testing.T) {
	d := fresh(t, 9)
	lay(t, d, 1, seg(1, "a"))
	lay(t, d, 3, "far")
	lay(t, d, 5, seg(2, "b"))
	l := opened(t, d, 1, 2, 4, 0, "a", "b")
	holds(t, d, 9, map[int]string{1: seg(1, "a"), 3: "far", 5: seg(2, "b")})
	truncate(t, l, 1, api.OK)
	holds(t, d, 9, map[int]string{5: seg(2, "b")})
}

// TestTruncateOne holds that a segment that no longer is the current one stays so when its place and its base come again.
func TestTruncateOne(t *testing.T) {
	d := fresh(t, 4)
	l := opened(t, d, 0, 2, 2, 0)
	d.Limit(1)
	add(t, l, "a", 1)
	refused(t, l, body(600), api.ErrDiskFull) // no current segment
	truncate(t, l, 0, api.OK)
	is(t, l, 1, 1, 1)
	refused(t, l, "b", api.ErrDiskFull)
	truncate(t, l, 1, api.OK)
	is(t, l, 1, 1, 0)
	add(t, l, "b", 2)
	holds(t, d, 4, map[int]string{0: seg(2, "b")})
	add(t, l, "c", 3)
	holds(t, d, 4, map[int]string{0: seg(2, "b", "c")})
}

func TestSync(t *testing.T) {
	d := fresh(t, 4)
	lay(t, d, 3, "else")
	l := opened(t, d, 0, 2, 1, 0)
	l.Sync()
	is(t, l, 0, 0, 0)
	add(t, l, "a", 1)
	add(t, l, "b", 2)
	is(t, l, 2, 0, 1)
	lay(t, d, 2, "more")
	l.Sync()
	is(t, l, 2, 2, 1)
	if d.Pending() != 0 {
		t.Fatal("no sync")
	}
	add(t, l, "c", 3) // into the same segment
	is(t, l, 3, 2, 1)
	d.Crash(nil)
	holds(t, d, 4, map[int]string{0: seg(1, "a", "b"), 2: "more", 3: "else"})
}

// plain is a log in the plainest way: the bytes of its sectors, and its segments as numbers.
type plain struct {
	segments, sectors int
	disk              map[int]string
	limit, pending    int
	list              []plainSegment
	current           int // a place in the list, or -1
	last, synced      uint64
}

type plainSegment struct {
	index  int
	base   uint64
	bodies []string
	bytes  string
}

func (p *plain) sync() { p.pending, p.synced = 0, p.last }

func (p *plain) free(index int) {
	for i := range p.sectors {
		delete(p.disk, index*p.sectors+i)
	}
}

// write lets a segment have bytes, sector by sector; false if the disk is full.
func (p *plain) write(index int, s string) bool {
	for i, b := range parts(s) {
		n := index*p.sectors + i
		old, used := p.disk[n]
		if used && old == b {
			continue
		}
		if !used && len(p.disk) >= p.limit {
			return false
		}
		p.disk[n] = b
		p.pending++
	}
	return true
}

func (p *plain) append(body string) (uint64, api.Errno) {
	seq := p.last + 1
	if len(body) > api.MaxBody || len(seg(seq, body)) > p.sectors*512 {
		return 0, api.ErrWalLong
	}
	if p.current >= 0 && len(p.list[p.current].bytes)+len(put(seq, body)) <= p.sectors*512 {
		s := &p.list[p.current]
		if !p.write(s.index, s.bytes+put(seq, body)) {
			p.current = -1
			return 0, api.ErrDiskFull
		}
		s.bytes += put(seq, body)
		s.bodies = append(s.bodies, body)
		p.last = seq
		return seq, api.OK
	}
	if len(p.list) == p.segments {
		return 0, api.ErrWalFull
	}
	index := 0
	for slices.ContainsFunc(p.list, func(s plainSegment) bool { return s.index == index }) {
		index++
	}
	if !p.write(index, seg(seq, body)) {
		p.current = -1
		p.free(index)
		p.sync()
		return 0, api.ErrDiskFull
	}
	p.current = len(p.list)
	p.list = append(p.list, plainSegment{index, seq, []string{body}, seg(seq, body)})
	p.last = seq
	return seq, api.OK
}

func (p *plain) truncate(seq uint64) api.Errno {
	if seq > p.last {
		return api.ErrWalSeq
	}
	var kept []plainSegment
	current := -1
	for i, s := range p.list {
		if len(s.bodies) == 0 || s.base+uint64(len(s.bodies))-1 <= seq {
			p.free(s.index)
			continue
		}
		if i == p.current {
			current = len(kept)
		}
		kept = append(kept, s)
	}
	p.list, p.current = kept, current
	p.sync()
	return api.OK
}

// open opens the log anew, from a number up to which alone segments were freed.
func (p *plain) open(from uint64) []string {
	first := len(p.list)
	for i, s := range p.list {
		if s.base <= from+1 && s.base+uint64(len(s.bodies)) >= from+1 {
			first = i
		}
	}
	for _, s := range p.list[:first] {
		p.free(s.index)
	}
	p.list = p.list[first:]
	var bodies []string
	p.last = from
	for _, s := range p.list {
		for i, b := range s.bodies {
			if s.base+uint64(i) > from {
				bodies = append(bodies, b)
				p.last = s.base + uint64(i)
			}
		}
	}
	p.current = -1
	p.sync()
	return bodies
}

// TestPlain does all sequences of some actions, with a log on two or three segments of one or two sectors, and with the plain one.
func TestPlain(t *testing.T) {
	for _, x := range []struct{ segments, sectors, actions int }{{2, 1, 5}, {3, 1, 4}, {2, 2, 4}} {
		for k := range power(9, x.actions) {
			var actions []int
			for range x.actions {
				actions = append(actions, k%9)
				k /= 9
			}
			compare(t, x.segments, x.sectors, actions)
		}
	}
}

func power(base, n int) int {
	p := 1
	for range n {
		p *= base
	}
	return p
}

// TestPlainLong does long sequences of such actions.
func TestPlainLong(t *testing.T) {
	r := rand.New(rand.NewPCG(1, 2))
	for range 2000 {
		var actions []int
		for range 60 {
			actions = append(actions, min(r.IntN(20), r.IntN(30), 14))
		}
		compare(t, 2+r.IntN(4), 1+r.IntN(4), actions)
	}
}

// compare does some actions with a log and with the plain one.
func compare(t *testing.T, segments, sectors int, actions []int) {
	t.Helper()
	all := segments * sectors
	d := fresh(t, all)
	l := opened(t, d, 0, segments, sectors, 0)
	p := &plain{segments: segments, sectors: sectors, disk: map[int]string{}, limit: all, current: -1}
	freed := uint64(0)
	appended := func(b string) {
		n, e := l.Append(b)
		if m, f := p.append(b); m != n || f != e {
			t.Fatalf("%v: Append of %d bytes = %d, %d; want %d, %d", actions, len(b), n, e, m, f)
		}
	}
	truncated := func(seq uint64) {
		if seq <= l.Last() {
			freed = max(freed, seq)
		}
		if e, f := l.Truncate(seq), p.truncate(seq); e != f {
			t.Fatalf("%v: Truncate(%d) = %d; want %d", actions, seq, e, f)
		}
	}
	for _, a := range actions {
		switch a {
		case 0:
			appended("a")
		case 1:
			appended(body(200))
		case 2:
			appended(body(sectors*512 - 40))
		case 3:
			l.Sync()
			p.sync()
		case 4:
			truncated(l.Last())
		case 5:
			truncated(l.Last() - 1)
		case 6:
			l = opened(t, d, 0, segments, sectors, freed, p.open(freed)...)
		case 7:
			p.limit = d.Used()
			d.Limit(p.limit)
		case 8:
			p.limit = d.Used() + 1
			d.Limit(p.limit)
		case 9:
			truncated(l.Last() / 2)
		case 10:
			truncated(l.Last() + 1)
		case 11:
			appended(body(sectors * 512))
		default:
			appended(body(a * 37 % 100))
		}
		is(t, l, p.last, p.synced, len(p.list))
		if holds(t, d, all, p.disk); d.Pending() != p.pending {
			t.Fatalf("%v: %d operations; want %d", actions, d.Pending(), p.pending)
		}
	}
}

// P8.4

// history is a log with what was appended to it since the beginning: the record with the number n is bodies[n-1].
type history struct {
	d      *disk.Disk
	l      *Log
	bodies []string
	freed  uint64 // up to here alone segments were freed
	next   int
}

// step does an action that is numbered from 0 to 6.
func (h *history) step(t *testing.T, action int) {
	t.Helper()
	switch action {
	case 0:
		h.append(t, 3)
	case 1:
		h.append(t, 600)
	case 2:
		h.append(t, 100)
	case 3:
		h.l.Sync()
	case 4:
		h.truncate(t, h.l.Last())
	case 5:
		h.truncate(t, h.l.Last()-min(h.l.Last(), 1))
	case 6: // a disk that is full for a while
		h.d.Limit(h.d.Used() + h.next%2)
		h.append(t, 900)
		h.d.Limit(api.MaxSectors)
	}
}

func (h *history) append(t *testing.T, n int) {
	t.Helper()
	h.next++
	b := (fmt.Sprint(h.next) + strings.Repeat("-", n))[:n]
	seq, e := h.l.Append(b)
	switch {
	case e == api.OK && seq == uint64(len(h.bodies))+1:
		h.bodies = append(h.bodies, b)
	case e != api.ErrWalFull && e != api.ErrDiskFull || seq != 0:
		t.Fatal("Append", seq, e)
	}
}

func (h *history) truncate(t *testing.T, seq uint64) {
	t.Helper()
	truncate(t, h.l, seq, api.OK)
	h.freed = max(h.freed, seq)
}

// check opens a disk that crashed, from each number that may be, and holds what it has against the history; it answers how many records it has.
func (h *history) check(t *testing.T, d *disk.Disk, synced uint64) int {
	t.Helper()
	had := -1
	for from := h.freed; from <= max(synced, h.freed); from++ {
		l, r, e := Open(d.Copy(), 0, 4, 2, from)
		if e != api.OK {
			t.Fatal(e)
		}
		if l.Last() < synced || l.Last() > uint64(len(h.bodies)) || !slices.Equal(r, records(from+1, h.bodies[from:l.Last()]...)) {
			t.Fatalf("from %d: last %d of %d, synced %d, %d records", from, l.Last(), len(h.bodies), synced, len(r))
		}
		if l.Synced() != l.Last() || had >= 0 && had != int(l.Last()) {
			t.Fatalf("from %d: last %d, synced %d; last before %d", from, l.Last(), l.Synced(), had)
		}
		had = int(l.Last())
	}
	return had
}

// TestCrash does all sequences of five actions; behind each come crashes that lose, tear or keep each of the first pending operations, and all others alike.
func TestCrash(t *testing.T) {
	const actions, apart = 5, 4
	for k := range power(7, actions) {
		d := fresh(t, 8)
		h := &history{d: d, l: opened(t, d, 0, 4, 2, 0)}
		for range actions {
			h.step(t, k%7)
			k /= 7
		}
		pending := d.Pending()
		for w := range power(3, min(pending, apart+1)) {
			var l []api.Survivor
			for i := range pending {
				if kind := w / power(3, min(i, apart)) % 3; kind > 0 {
					l = append(l, api.Survivor{Write: i, Bytes: []int{0, 25, 512}[kind]})
				}
			}
			c := d.Copy()
			c.Crash(l)
			h.check(t, c, h.l.Synced())
		}
	}
}

// TestCrashTorn crashes at every byte of a record's two sectors.
func TestCrashTorn(t *testing.T) {
	for _, first := range []int{3, 400, 484, 485, 900} { // the second record is in the same segment, or in a new one
		d := fresh(t, 8)
		h := &history{d: d, l: opened(t, d, 0, 4, 2, 0)}
		h.append(t, first)
		h.l.Sync()
		h.append(t, 500)
		for survive := -1; survive <= 513; survive++ {
			for _, kept := range [][]api.Survivor{
				{{Write: 0, Bytes: survive}}, {{Write: 1, Bytes: survive}}, {{Write: 0, Bytes: survive}, {Write: 1, Bytes: 512}}, {{Write: 0, Bytes: 512}, {Write: 1, Bytes: survive}},
			} {
				c := d.Copy()
				c.Crash(kept)
				if n := h.check(t, c, 1); survive >= 512 && len(kept) == 2 && n != 2 {
					t.Fatalf("first %d: all is kept, but the log has %d records", first, n)
				}
			}
		}
	}
}

// TestCrashAgain does many actions, crashes and goes on with what the crash left.
func TestCrashAgain(t *testing.T) {
	r := rand.New(rand.NewPCG(3, 4))
	lost, kept := 0, 0
	for range 3000 {
		d := fresh(t, 8)
		h := &history{d: d, l: opened(t, d, 0, 4, 2, 0)}
		for range 8 {
			for range r.IntN(8) {
				h.step(t, r.IntN(7))
			}
			if r.IntN(4) == 0 {
				h.truncate(t, h.l.Last()-min(h.l.Last(), uint64(r.IntN(4))))
			}
			var l []api.Survivor
			for i := range d.Pending() {
				if r.IntN(3) > 0 {
					l = append(l, api.Survivor{Write: i, Bytes: []int{-1, 0, 1, 5, 17, 20, 100, 511, 512, 512, 512}[r.IntN(11)]})
				}
			}
			synced := h.l.Synced()
			d.Crash(l)
			had := h.check(t, d, synced)
			lost += len(h.bodies) - had
			kept += had - int(synced)
			h.bodies = h.bodies[:had]
			h.l = opened(t, d, 0, 4, 2, h.freed, h.bodies[h.freed:]...)
		}
	}
	if lost < 1000 || kept < 1000 {
		t.Errorf("%d records were lost and %d were not durable but kept: too few to tell", lost, kept)
	}
}

// P1: every call ends without a panic, leaves what it is given alone, and answers new memory.

// TestFar opens logs where numbers pass their range, of which nothing is promised but that every call ends.
func TestFar(t *testing.T) {
	for _, base := range []uint64{0, 1, 1 << 63, math.MaxUint64 - 1, math.MaxUint64} {
		for _, from := range []uint64{0, 1, 1<<63 - 1, math.MaxUint64 - 2, math.MaxUint64 - 1, math.MaxUint64} {
			for n := range 4 {
				d := fresh(t, 4)
				lay(t, d, 0, seg(base, []string{"a", "b", "c"}[:n]...))
				lay(t, d, 1, seg(base+uint64(n), "d"))
				lay(t, d, 2, seg(base+uint64(n)))
				l, _, e := Open(d, 0, 4, 1, from)
				if e != api.OK {
					t.Fatal(e)
				}
				for i := range 6 {
					l.Append(body(100 * i))
					l.Truncate(from + uint64(i))
				}
				l.Sync()
				if l.Synced() != l.Last() || l.Live() > 4 {
					t.Error("synced", l.Synced(), "last", l.Last(), "live", l.Live())
				}
			}
		}
	}
}

func TestMemory(t *testing.T) {
	d := fresh(t, 4)
	l := opened(t, d, 0, 2, 2, 0)
	b := []byte("abc")
	add(t, l, string(b), 1)
	clear(b)
	add(t, l, "d", 2)
	one, two := d.Copy(), d.Copy()
	_, r, _ := Open(one, 0, 2, 2, 0)
	_, again, _ := Open(two, 0, 2, 2, 0)
	clear(r[:cap(r)])
	if !slices.Equal(again, records(1, "abc", "d")) {
		t.Error(again)
	}
	opened(t, one, 0, 2, 2, 0, "abc", "d")
	add(t, l, "e", 3)
	opened(t, d, 0, 2, 2, 0, "abc", "d", "e")
	opened(t, two, 0, 2, 2, 1, "d") // a copy of the disk is a log of its own
}

// TestMemoryOpen holds that a log does not depend on the records that Open answered with it.
func TestMemoryOpen(t *testing.T) {
	d := fresh(t, 4)
	lay(t, d, 0, seg(1, "a", "b"))
	lay(t, d, 2, seg(3, "c"))
	l, r, _ := Open(d, 0, 2, 2, 1)
	clear(r[:cap(r)])
	is(t, l, 3, 3, 2)
	truncate(t, l, 2, api.OK)
	is(t, l, 3, 3, 1)
	add(t, l, "d", 4)
	opened(t, d, 0, 2, 2, 2, "c", "d")
}

// TestMany fills, truncates and opens logs of the greatest size.
func TestMany(t *testing.T) {
	d := fresh(t, api.MaxSectors)
	l := opened(t, d, 0, 64, 64, 0)
	n := uint64(0)
	for {
		_, e := l.Append("a")
		if e == api.ErrWalFull {
			break
		}
		if n++; e != api.OK {
			t.Fatal(e)
		}
	}
	is(t, l, n, 0, 64)
	if n < 64*(32768-20)/14 {
		t.Errorf("%d records", n)
	}
	l, r, e := Open(d, 0, 64, 64, 0)
	if e != api.OK || uint64(len(r)) != n {
		t.Fatal(e, len(r))
	}
	truncate(t, l, n, api.OK)
	if is(t, l, n, n, 0); d.Used() != 0 {
		t.Error("sectors are left")
	}
	for i := range uint64(20000) {
		add(t, l, body(2000), n+i+1)
		truncate(t, l, n+i, api.OK)
	}
	is(t, l, n+20000, n+20000, 1)
}

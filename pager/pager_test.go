package pager

import (
	"bytes"
	"encoding/binary"
	"fmt"
	"maps"
	"math"
	"math/rand/v2"
	"slices"
	"strings"
	"testing"

	"lapstone/api"
	"lapstone/disk"
	"lapstone/meta"
	"lapstone/record"
)

// size is the number of sectors of most disks here, and at the first sector of most pagers on them, which have places slots.
const (
	size   = 20
	at     = 3
	places = 3
)

// far are numbers that are far off.
var far = []int{math.MinInt, math.MinInt + 1, -1 << 32, -65536, -2, -1, 1 << 20, 1 << 31, 1 << 32, 1 << 61, 1<<61 + 2, 1 << 62, math.MaxInt - 1, math.MaxInt}

// sectors is what the sectors in use of a disk hold.
type sectors map[int]string

// pages is what the pages of a pager hold.
type pages map[int]string

func text(n int) string { return strings.Repeat("x", n) }

// enc is the encoding of a record.
func enc(seq uint64, body string) string {
	b, e := record.Put(api.Record{Seq: seq, Body: body})
	if e != api.OK {
		panic("a body that is too long")
	}
	return string(b)
}

// nums is number fields.
func nums(l ...uint64) string {
	var b []byte
	for _, v := range l {
		b = binary.AppendUvarint(b, v)
	}
	return string(b)
}

func fresh(t testing.TB, n int) *disk.Disk {
	t.Helper()
	d, e := disk.New(n)
	if e != api.OK {
		t.Fatal(e)
	}
	return d
}

// laid returns a disk with these sectors, synced.
func laid(t testing.TB, n int, held sectors) *disk.Disk {
	t.Helper()
	d := fresh(t, n)
	for i, s := range held {
		if e := d.Write(i, []byte(s)); e != api.OK {
			t.Fatal(i, e)
		}
	}
	d.Sync()
	return d
}

// contents is what the sectors in use hold in the view.
func contents(d *disk.Disk, n int) sectors {
	m := sectors{}
	for i := range n {
		if b, e := d.Read(i); e == api.OK {
			m[i] = string(b)
		}
	}
	return m
}

// grounded is what a crash leaves.
func grounded(d *disk.Disk, l []api.Survivor, n int) sectors {
	c := d.Copy()
	c.Crash(l)
	return contents(c, n)
}

// holds checks what the sectors hold in the view and in the ground, and how many operations are pending.
func holds(t testing.TB, d *disk.Disk, n int, view, ground sectors, pending int) {
	t.Helper()
	if got := contents(d, n); !maps.Equal(got, view) || d.Used() != len(view) {
		t.Fatalf("the view is %.600q; want %.600q", fmt.Sprint(got), fmt.Sprint(view))
	}
	if got := grounded(d, nil, n); !maps.Equal(got, ground) {
		t.Fatalf("the ground is %.600q; want %.600q", fmt.Sprint(got), fmt.Sprint(ground))
	}
	if d.Pending() != pending {
		t.Fatalf("%d operations are pending; want %d", d.Pending(), pending)
	}
}

// same checks that two disks have the same view, ground and pending operations, as far as crashes tell.
func same(t testing.TB, d, other *disk.Disk, n int) {
	t.Helper()
	holds(t, d, n, contents(other, n), grounded(other, nil, n), other.Pending())
	for i := range other.Pending() {
		for _, bytes := range []int{0, 5, 512} {
			l := []api.Survivor{{Write: i, Bytes: bytes}}
			if got, want := grounded(d, l, n), grounded(other, l, n); !maps.Equal(got, want) {
				t.Fatalf("after a crash that %v survives: %.600q; want %.600q", l, fmt.Sprint(got), fmt.Sprint(want))
			}
		}
	}
}

// opened opens a pager that is to have these pages and a tag.
func opened(t testing.TB, d *disk.Disk, at, places int, want pages, tag uint64) *Pager {
	t.Helper()
	p, e := Open(d, at, places)
	if p == nil || e != api.OK {
		t.Fatalf("Open(%d, %d) = %v, %d", at, places, p, e)
	}
	is(t, p, want, tag)
	return p
}

// is checks the pages of a pager, and its tag.
func is(t testing.TB, p *Pager, want pages, tag uint64) {
	t.Helper()
	if got, ids := p.Pages(), slices.Sorted(maps.Keys(want)); !slices.Equal(got, ids) {
		t.Fatalf("Pages() = %d; want %d", got, ids)
	}
	for id := -1; id <= api.MaxLogical; id++ {
		b, e := p.Read(id)
		if s, ok := want[id]; !ok && (b != nil || e != api.ErrPagerPage) {
			t.Fatalf("Read(%d) = %.40q, %d; want ErrPagerPage", id, b, e)
		} else if ok && (string(b) != s || e != api.OK) {
			t.Fatalf("Read(%d) = %d bytes %.40q, %d; want %d bytes %.40q", id, len(b), b, e, len(s), s)
		}
	}
	if got := p.Tag(); got != tag {
		t.Fatalf("Tag() = %d; want %d", got, tag)
	}
}

func put(t testing.TB, p *Pager, id int, s string, want api.Errno) {
	t.Helper()
	if e := p.Write(id, []byte(s)); e != want {
		t.Fatalf("Write(%d) of %d bytes = %d; want %d", id, len(s), e, want)
	}
}

func free(t testing.TB, p *Pager, id int, want api.Errno) {
	t.Helper()
	if e := p.Free(id); e != want {
		t.Fatalf("Free(%d) = %d; want %d", id, e, want)
	}
}

func alloc(t testing.TB, p *Pager, s string, want int, err api.Errno) {
	t.Helper()
	if id, e := p.Alloc([]byte(s)); id != want || e != err {
		t.Fatalf("Alloc of %d bytes = %d, %d; want %d, %d", len(s), id, e, want, err)
	}
}

func commit(t testing.TB, p *Pager, tag uint64, want api.Errno) {
	t.Helper()
	if e := p.Commit(tag); e != want {
		t.Fatalf("Commit(%d) = %d; want %d", tag, e, want)
	}
}

func steps(t testing.TB, p *Pager, tag uint64, n int, want bool, err api.Errno) {
	t.Helper()
	if done, e := p.Steps(tag, n); done != want || e != err {
		t.Fatalf("Steps(%d, %d) = %t, %d; want %t, %d", tag, n, done, e, want, err)
	}
}

func TestExample(t *testing.T) {
	d := fresh(t, 100)
	p := opened(t, d, 0, 20, nil, 0)
	alloc(t, p, "a", 0, api.OK)
	alloc(t, p, "b", 1, api.OK)
	commit(t, p, 7, api.OK)
	put(t, p, 0, "x", api.OK)
	is(t, p, pages{0: "x", 1: "b"}, 7)
	d.Crash(nil)
	opened(t, d, 0, 20, pages{0: "a", 1: "b"}, 7)
}

// P13.1

func misplaced(t *testing.T, d *disk.Disk, at, places int) {
	t.Helper()
	if p, e := Open(d, at, places); p != nil || e != api.ErrPagerPlace {
		t.Errorf("Open(%d, %d) = %v, %d; want ErrPagerPlace", at, places, p, e)
	}
}

func TestOpenPlace(t *testing.T) {
	d := fresh(t, 65536)
	for _, places := range append(far, 0, 1, 257, 258, 512, 16383, 16384, 65536) {
		for _, at := range append(far, 0, 1, 7, 65535) {
			misplaced(t, d, at, places)
		}
	}
	for places := 2; places <= 256; places++ {
		last := 65536 - 2 - 4*places
		for _, at := range append(far, last+1, last+2, last+3, last+4, last+5, 65534, 65535, 65536) {
			misplaced(t, d, at, places)
		}
		for _, at := range []int{0, 1, 2, last - 1, last} {
			opened(t, d, at, places, nil, 0)
		}
	}
}

// TestOpenFirst holds that ErrPagerPlace comes before ErrPagerForm.
func TestOpenFirst(t *testing.T) {
	d := laid(t, 65536, sectors{0: enc(1, "junk"), 65525: enc(1, "junk"), 65526: enc(1, "junk")})
	malformed(t, d, 0, 2)
	misplaced(t, d, 0, 1)
	misplaced(t, d, 0, 257)
	malformed(t, d, 65526, 2)
	misplaced(t, d, 65526, 3)
	malformed(t, d, 65525, 2)
}

func malformed(t testing.TB, d *disk.Disk, at, places int) {
	t.Helper()
	if p, e := Open(d, at, places); p != nil || e != api.ErrPagerForm {
		t.Fatalf("Open(%d, %d) = %v, %d; want ErrPagerForm", at, places, p, e)
	}
}

// TestOpenNone opens where no string is stored, whatever else the sectors hold.
func TestOpenNone(t *testing.T) {
	good := enc(9, nums(7, 1, 0, 0, 0))
	for _, held := range []sectors{
		{},
		{at: "", at + 1: ""},
		{at: "torn", at + 1: good[1:]},
		{at: enc(0, nums(7, 0))},
		{at: good + "\x00", at + 1: good + good},
		{at - 1: good, at + 2: good, at + 6: good},
	} {
		d := laid(t, size, held)
		p := opened(t, d, at, places, nil, 0)
		put(t, p, 4, "a", api.OK)
		commit(t, p, 2, api.OK)
		opened(t, d, at, places, pages{4: "a"}, 2)
	}
}

// TestOpenSmall opens on disks that have not all sectors, or none at all.
func TestOpenSmall(t *testing.T) {
	for n := 1; n < at+2+4*places; n++ {
		d := fresh(t, n)
		opened(t, d, at, places, nil, 0)
		opened(t, d, 64510, 256, nil, 0)
	}
	d := laid(t, at+1, sectors{at: enc(1, nums(7, 1, 5, 2, 0))})
	opened(t, d, at, places, pages{5: ""}, 7)
}

// described is what a string says of pages, in the plainest way.
type described struct {
	tag   uint64
	pages [][3]uint64 // number, slot, length
}

// parse decodes a string, with as many slots, in the plainest way.
func parse(s string, places int) (described, bool) {
	var l []uint64
	for b := []byte(s); len(b) > 0; {
		v, n := binary.Uvarint(b)
		if n <= 0 || !bytes.HasPrefix(b, binary.AppendUvarint(nil, v)) {
			return described{}, false
		}
		l, b = append(l, v), b[n:]
	}
	if len(l) < 2 || l[1] > 90 || uint64(len(l)) != 2+3*l[1] {
		return described{}, false
	}
	x := described{tag: l[0]}
	for i := 2; i < len(l); i += 3 {
		page := [3]uint64(l[i : i+3])
		for _, y := range x.pages {
			if y[0] >= page[0] || y[1] == page[1] {
				return described{}, false
			}
		}
		if page[0] > 89 || page[1] >= uint64(places) || page[2] > 2048 {
			return described{}, false
		}
		x.pages = append(x.pages, page)
	}
	return x, true
}

// judged opens a pager with a stored string and compares what it is with what the string says.
func judged(t testing.TB, s string, places int) bool {
	t.Helper()
	d := laid(t, 5, sectors{1: enc(1, s)})
	x, ok := parse(s, places)
	if !ok {
		malformed(t, d, 1, places)
		return false
	}
	p, e := Open(d, 1, places)
	if e != api.OK || p == nil {
		t.Fatalf("Open of %q = %v, %d", s, p, e)
	}
	var ids []int
	for _, y := range x.pages {
		ids = append(ids, int(y[0]))
	}
	if got := p.Pages(); !slices.Equal(got, ids) || p.Tag() != x.tag {
		t.Fatalf("Open of %q: %d, %d; want %d, %d", s, got, p.Tag(), ids, x.tag)
	}
	return true
}

// TestOpenString opens stored strings that are worked out by hand.
func TestOpenString(t *testing.T) {
	for _, x := range []struct {
		s    string
		want bool
	}{
		{nums(0, 0), true},
		{nums(7, 0), true},
		{nums(math.MaxUint64, 0), true},
		{nums(7, 1, 0, 0, 0), true},
		{nums(7, 1, 89, 2, 2048), true},
		{nums(7, 1, 90, 2, 2048), false},
		{nums(7, 1, 89, 3, 2048), false},
		{nums(7, 1, 89, 2, 2049), false},
		{nums(7, 1, 1<<32, 0, 0), false},
		{nums(7, 1, 0, 1<<32, 0), false},
		{nums(7, 1, 0, 0, 1<<32), false},
		{nums(7, 1, 1<<63, 0, 0), false},
		{nums(7, 1, 0, 1<<63, 0), false},
		{nums(7, 1, 0, 0, 1<<63), false},
		{nums(7, 1, math.MaxUint64, 0, 0), false},
		{nums(7, 1, 0, math.MaxUint64, 0), false},
		{nums(7, 1, 0, 0, math.MaxUint64), false},
		{nums(7, 2, 3, 1, 5, 4, 0, 5), true},
		{nums(7, 2, 3, 1, 5, 3, 0, 5), false}, // the same page twice
		{nums(7, 2, 4, 1, 5, 3, 0, 5), false}, // descending pages
		{nums(7, 2, 3, 1, 5, 4, 1, 5), false}, // the same slot twice
		{nums(7, 2, 0, 1, 5, 0, 0, 5), false},
		{nums(7, 3, 3, 2, 5, 4, 1, 5, 5, 0, 5), true},
		{nums(7, 3, 3, 2, 5, 4, 1, 5, 5, 2, 5), false},
		{nums(7, 4, 3, 2, 5, 4, 1, 5, 5, 0, 5, 6, 3, 5), false}, // more pages than slots
		{"", false},
		{nums(7), false},
		{nums(7, 1), false},
		{nums(7, 1, 0), false},
		{nums(7, 1, 0, 0), false},
		{nums(7, 2, 0, 0, 0), false},
		{nums(7, 0, 0), false},
		{nums(7, 0, 0, 0, 0), false},
		{nums(7, 1, 0, 0, 0, 0), false},
		{nums(7, 1, 0, 0, 0, 1, 1, 1), false},
		{nums(7, 91), false},
		{nums(7, math.MaxUint64), false},
		{"\x87\x00\x00", false}, // a varint that is longer than it need be
		{"\x07\x80\x00", false},
		{"\x07\x01\x80\x00\x00\x00", false},
		{"\x07\x01\x00\x80\x00\x00", false},
		{"\x07\x01\x00\x00\x80\x00", false},
		{"\x07\x01\x00\x00\x80", false},
		{strings.Repeat("\xff", 10) + "\x01\x00", false},
		{strings.Repeat("\xff", 9) + "\x02\x00", false},
		{strings.Repeat("\xff", 9) + "\x01\x00", true},
		{strings.Repeat("\x00", 490), false},
	} {
		if got := judged(t, x.s, places); got != x.want {
			t.Errorf("%q is taken: %t; want %t", x.s, got, x.want)
		}
	}
}

// TestOpenFull opens strings with as many pages as there may be.
func TestOpenFull(t *testing.T) {
	for _, x := range []struct {
		n, slots, length uint64
		want             bool
	}{{90, 90, 2048, true}, {90, 256, 2048, true}, {89, 89, 0, true}, {90, 89, 0, false}, {91, 256, 0, false}} {
		l := []uint64{math.MaxUint64, x.n}
		for i := range x.n {
			l = append(l, i, x.slots-1-i, x.length)
		}
		if got := judged(t, nums(l...), int(x.slots)); got != x.want {
			t.Errorf("%d pages in %d slots are taken: %t; want %t", x.n, x.slots, got, x.want)
		}
	}
}

// TestOpenSlots has the last slot and the one behind it, for each number of slots.
func TestOpenSlots(t *testing.T) {
	for places := 2; places <= 256; places++ {
		for slot := max(0, places-2); slot < places+3; slot++ {
			if got := judged(t, nums(0, 1, 0, uint64(slot), 0), places); got != (slot < places) {
				t.Errorf("the slot %d of %d is taken: %t", slot, places, got)
			}
		}
	}
}

// TestOpenShort has all short strings of the bytes that matter.
func TestOpenShort(t *testing.T) {
	const alphabet = "\x00\x01\x02\x59\x5a\x80"
	good := 0
	var grow func(s string, n int)
	grow = func(s string, n int) {
		if judged(t, s, 2) {
			good++
		}
		for i := range alphabet {
			if n > 0 {
				grow(s+alphabet[i:i+1], n-1)
			}
		}
	}
	grow("", 6)
	for i := range len(alphabet) {
		grow("\x01\x02"+alphabet[i:i+1]+"\x00\x01", 4)
		grow("\x01\x02"+alphabet[i:i+1]+"\x01\x01", 4)
	}
	if good < 100 {
		t.Errorf("only %d strings are valid", good)
	}
}

// TestOpenChanged cuts, lengthens and changes valid strings at every place.
func TestOpenChanged(t *testing.T) {
	for _, s := range []string{nums(300, 3, 1, 2, 2048, 50, 0, 0, 89, 1, 700), nums(1, 2, 0, 1, 1, 1, 0, 128), nums(math.MaxUint64, 0)} {
		for i := range len(s) + 1 {
			judged(t, s[:i], places)
			for x := range 256 {
				b := string([]byte{byte(x)})
				judged(t, s[:i]+b+s[i:], places)
				if i < len(s) {
					judged(t, s[:i]+b+s[i+1:], places)
				}
			}
		}
	}
}

// TestOpenBytes opens sectors that are laid by hand.
func TestOpenBytes(t *testing.T) {
	held := sectors{
		at:      enc(4, nums(300, 3, 0, 2, 2048, 7, 0, 0, 89, 1, 513)),
		at + 1:  enc(3, nums(200, 1, 0, 0, 3)),
		at + 2:  "old",
		at + 6:  text(512),
		at + 7:  "y",
		at + 10: strings.Repeat("a", 512),
		at + 11: strings.Repeat("b", 512),
		at + 12: strings.Repeat("c", 512),
		at + 13: strings.Repeat("d", 512),
	}
	d := laid(t, size, held)
	whole := strings.Repeat("a", 512) + strings.Repeat("b", 512) + strings.Repeat("c", 512) + strings.Repeat("d", 512)
	opened(t, d, at, places, pages{0: whole, 7: "", 89: text(512) + "y"}, 300)
	d.Write(at, nil)
	opened(t, d, at, places, pages{0: "old"}, 200)
	d.Crash(nil)
	d.Free(at + 1)
	opened(t, d, at, places, pages{0: whole, 7: "", 89: text(512) + "y"}, 300)
	holds(t, d, size, maps.Collect(without(held, at+1)), held, 1)
}

// without goes through the sectors but one.
func without(held sectors, n int) func(func(int, string) bool) {
	return func(yield func(int, string) bool) {
		for i, s := range held {
			if i != n && !yield(i, s) {
				return
			}
		}
	}
}

// TestOpenUnused holds that Open does not look at the sectors of pages: a page that they do not hold can be written and freed as any other.
func TestOpenUnused(t *testing.T) {
	for _, x := range []struct {
		held sectors
		want api.Errno // of the page 1: 600 bytes in the sectors at + 2 and at + 3
	}{
		{sectors{}, api.ErrDiskSector},
		{sectors{at + 2: text(512)}, api.ErrDiskSector},
		{sectors{at + 3: text(88)}, api.ErrDiskSector},
		{sectors{at + 2: text(512), at + 3: text(87)}, api.ErrPagerForm},
		{sectors{at + 2: text(511), at + 3: text(512), at + 4: "a"}, api.ErrPagerForm},
	} {
		held := maps.Clone(x.held)
		held[at] = enc(1, nums(7, 2, 1, 0, 600, 2, 2, 1))
		d := laid(t, size, held)
		p, e := Open(d, at, places)
		if e != api.OK || p.Tag() != 7 || !slices.Equal(p.Pages(), []int{1, 2}) {
			t.Fatal(p, e)
		}
		for id, want := range []api.Errno{api.ErrPagerPage, x.want, api.ErrDiskSector} {
			if b, e := p.Read(id); b != nil || e != want {
				t.Errorf("Read(%d) = %q, %d; want %d", id, b, e, want)
			}
		}
		put(t, p, 1, "a", api.OK)
		free(t, p, 2, api.OK)
		alloc(t, p, "b", 0, api.OK)
		is(t, p, pages{0: "b", 1: "a"}, 7)
		commit(t, p, 8, api.ErrPagerFull) // one slot is free
		free(t, p, 0, api.OK)
		commit(t, p, 8, api.OK)
		opened(t, d, at, places, pages{1: "a"}, 8)
	}
	more := sectors{at: enc(1, nums(7, 1, 1, 0, 600)), at + 2: text(512), at + 3: text(88) + "more", at + 4: "more"}
	opened(t, laid(t, size, more), at, places, pages{1: text(600)}, 7)
}

// TestOpenStill holds that Open changes nothing.
func TestOpenStill(t *testing.T) {
	ground := sectors{1: "else", at: enc(1, nums(7, 1, 0, 0, 1)), at + 1: "torn", at + 2: "a"}
	d := laid(t, size, ground)
	d.Write(at+1, []byte(enc(2, nums(8, 1, 0, 1, 1))))
	d.Write(at+6, []byte("b"))
	d.Free(1)
	view := sectors{at: ground[at], at + 1: enc(2, nums(8, 1, 0, 1, 1)), at + 2: "a", at + 6: "b"}
	for range 3 {
		opened(t, d, at, places, pages{0: "b"}, 8)
		opened(t, d, at, places, pages{0: "b"}, 8).Drop()
		opened(t, d, 7, places, nil, 0)
		Open(d, at, 1)
		malformed(t, laid(t, size, sectors{at: enc(1, "")}), at, places)
		holds(t, d, size, view, ground, 3)
	}
}

// P13.2

// TestPages goes through calls that are worked out by hand.
func TestPages(t *testing.T) {
	d := fresh(t, size)
	p := opened(t, d, at, places, nil, 0)
	free(t, p, 0, api.ErrPagerPage)
	put(t, p, 1, "one", api.OK)
	is(t, p, pages{1: "one"}, 0)
	alloc(t, p, "zero", 0, api.OK)
	alloc(t, p, "", 2, api.OK)
	is(t, p, pages{0: "zero", 1: "one", 2: ""}, 0)
	put(t, p, 1, "", api.OK)
	put(t, p, 0, "z", api.OK)
	is(t, p, pages{0: "z", 1: "", 2: ""}, 0)
	free(t, p, 1, api.OK)
	free(t, p, 1, api.ErrPagerPage)
	is(t, p, pages{0: "z", 2: ""}, 0)
	alloc(t, p, "again", 1, api.OK)
	free(t, p, 0, api.OK)
	put(t, p, 89, "last", api.OK)
	is(t, p, pages{1: "again", 2: "", 89: "last"}, 0)
	holds(t, d, size, sectors{}, sectors{}, 0) // nothing is on the disk before a commit
	commit(t, p, 5, api.OK)
	is(t, p, pages{1: "again", 2: "", 89: "last"}, 5)
	free(t, p, 1, api.OK)
	free(t, p, 1, api.ErrPagerPage)
	put(t, p, 2, "two", api.OK)
	alloc(t, p, "new", 0, api.OK)
	is(t, p, pages{0: "new", 2: "two", 89: "last"}, 5)
	p.Drop()
	is(t, p, pages{1: "again", 2: "", 89: "last"}, 5)
	p.Drop()
	is(t, p, pages{1: "again", 2: "", 89: "last"}, 5)
	free(t, p, 89, api.OK)
	free(t, p, 2, api.OK)
	free(t, p, 1, api.OK)
	is(t, p, nil, 5)
	alloc(t, p, "a", 0, api.OK)
	commit(t, p, 4, api.ErrPagerFull)
	is(t, p, pages{0: "a"}, 5)
	p.Drop()
	is(t, p, pages{1: "again", 2: "", 89: "last"}, 5)
}

// TestDropNone drops what was written before any commit.
func TestDropNone(t *testing.T) {
	d := fresh(t, size)
	p := opened(t, d, at, places, nil, 0)
	p.Drop()
	is(t, p, nil, 0)
	put(t, p, 3, "a", api.OK)
	alloc(t, p, "b", 0, api.OK)
	p.Drop()
	is(t, p, nil, 0)
	alloc(t, p, "c", 0, api.OK)
	is(t, p, pages{0: "c"}, 0)
	holds(t, d, size, sectors{}, sectors{}, 0)
}

// TestDropForgets holds that after Drop nothing is written: a commit has no page to assign a slot to.
func TestDropForgets(t *testing.T) {
	d := fresh(t, size)
	p := opened(t, d, at, places, nil, 0)
	for id := range 3 {
		put(t, p, id, "a", api.OK)
	}
	commit(t, p, 1, api.OK)
	put(t, p, 0, "b", api.OK)
	put(t, p, 5, "b", api.OK)
	commit(t, p, 2, api.ErrPagerFull)
	p.Drop()
	steps(t, p, 2, 5, true, api.OK)
	opened(t, d, at, places, pages{0: "a", 1: "a", 2: "a"}, 2)
}

func TestNumbers(t *testing.T) {
	p := opened(t, fresh(t, size), at, places, nil, 0)
	put(t, p, 0, "first", api.OK)
	put(t, p, 89, "last", api.OK)
	for _, id := range append(far, 90, 91, 127, 128, 256) {
		put(t, p, id, "a", api.ErrPagerPage)
		put(t, p, id, text(2048), api.ErrPagerPage)
		put(t, p, id, text(2049), api.ErrPagerPage) // it comes before ErrPagerLong
		free(t, p, id, api.ErrPagerPage)
		if b, e := p.Read(id); b != nil || e != api.ErrPagerPage {
			t.Errorf("Read(%d) = %q, %d", id, b, e)
		}
	}
	is(t, p, pages{0: "first", 89: "last"}, 0)
}

func TestLong(t *testing.T) {
	p := opened(t, fresh(t, size), at, places, nil, 0)
	for _, n := range []int{2049, 2050, 4096, 65536, 1 << 20} {
		put(t, p, 0, text(n), api.ErrPagerLong)
		put(t, p, 89, text(n), api.ErrPagerLong)
		alloc(t, p, text(n), 0, api.ErrPagerLong)
		is(t, p, nil, 0)
	}
	put(t, p, 0, "a", api.OK)
	put(t, p, 0, text(2049), api.ErrPagerLong)
	alloc(t, p, text(2049), 0, api.ErrPagerLong)
	is(t, p, pages{0: "a"}, 0)
}

// TestLengths writes, commits and reads pages of every length.
func TestLengths(t *testing.T) {
	r := rand.New(rand.NewPCG(13, 1))
	d := fresh(t, size)
	p := opened(t, d, at, places, nil, 0)
	for n := range 2049 {
		b := make([]byte, n)
		for i := range b {
			b[i] = byte(r.IntN(256))
		}
		want := pages{n % 90: string(b)}
		put(t, p, n%90, string(b), api.OK)
		if n > 0 {
			free(t, p, (n-1)%90, api.OK)
		}
		is(t, p, want, p.Tag())
		commit(t, p, uint64(n), api.OK)
		is(t, p, want, uint64(n))
		opened(t, d, at, places, want, uint64(n))
	}
}

// TestAll fills a pager with all 90 pages, and allocates what becomes free.
func TestAll(t *testing.T) {
	d := fresh(t, 2000)
	p := opened(t, d, 0, 256, nil, 0)
	want := pages{}
	for id := range 90 {
		want[id] = fmt.Sprint("page ", id)
		alloc(t, p, want[id], id, api.OK)
	}
	full := func() {
		t.Helper()
		alloc(t, p, "", 0, api.ErrPagerFull)
		alloc(t, p, text(2048), 0, api.ErrPagerFull)
		alloc(t, p, text(2049), 0, api.ErrPagerLong) // it comes before ErrPagerFull
	}
	full()
	is(t, p, want, 0)
	commit(t, p, 1, api.OK)
	full()
	for _, id := range []int{89, 0, 44, 88} {
		free(t, p, id, api.OK)
		alloc(t, p, "new", id, api.OK)
		want[id] = "new"
		full()
		is(t, p, want, 1)
	}
	free(t, p, 70, api.OK)
	free(t, p, 30, api.OK)
	free(t, p, 50, api.OK)
	want[30], want[50], want[70] = "a", "b", "c"
	for _, id := range []int{30, 50, 70} {
		alloc(t, p, want[id], id, api.OK)
	}
	full()
	is(t, p, want, 1)
	commit(t, p, 2, api.OK)
	opened(t, d, 0, 256, want, 2)
}

// P13.3

// TestLayout holds where a commit writes what.
func TestLayout(t *testing.T) {
	d := fresh(t, size)
	p := opened(t, d, at, places, nil, 0)
	put(t, p, 5, text(600), api.OK)
	put(t, p, 2, "a", api.OK)
	commit(t, p, 7, api.OK)
	want := sectors{
		3: enc(1, "\x07\x02"+"\x02\x00\x01"+"\x05\x01\xd8\x04"),
		5: "a", 9: text(512), 10: text(88),
	}
	holds(t, d, size, want, want, 0)

	put(t, p, 2, "b", api.OK) // the slots 0 and 1 are those of the last committed state
	commit(t, p, 8, api.OK)
	want[4], want[13] = enc(2, "\x08\x02"+"\x02\x02\x01"+"\x05\x01\xd8\x04"), "b"
	holds(t, d, size, want, want, 0)

	free(t, p, 5, api.OK) // its slot is free from the next commit on
	put(t, p, 0, "", api.OK)
	commit(t, p, 9, api.OK) // an empty page has a slot, but writes no sector
	want[3] = enc(3, "\x09\x02"+"\x00\x00\x00"+"\x02\x02\x01")
	holds(t, d, size, want, want, 0)

	put(t, p, 89, text(2048), api.OK)
	free(t, p, 2, api.OK)
	commit(t, p, 300, api.OK)
	want[4] = enc(4, "\xac\x02\x02"+"\x00\x00\x00"+"\x59\x01\x80\x10")
	want[9], want[10], want[11], want[12] = text(512), text(512), text(512), text(512)
	holds(t, d, size, want, want, 0)

	free(t, p, 0, api.OK)
	free(t, p, 89, api.OK)
	commit(t, p, 0, api.OK)
	want[3] = enc(5, "\x00\x00")
	holds(t, d, size, want, want, 0)
	opened(t, d, at, places, nil, 0)
}

// TestSteps holds what the disk has after each number of steps.
func TestSteps(t *testing.T) {
	old := sectors{1: "else", 3: enc(6, nums(7, 2, 1, 1, 5, 4, 0, 3)), 4: enc(5, nums(6, 0)), 5: "abc", 9: "defgh", 13: "before", 14: "it"}
	with := func(s sectors, more sectors) sectors {
		s = maps.Clone(s)
		maps.Copy(s, more)
		return s
	}
	stored := with(old, sectors{13: text(512), 14: text(100)})
	freed := with(stored, nil)
	delete(freed, 4)
	whole := with(freed, sectors{4: enc(7, nums(8, 2, 1, 2, 612, 4, 0, 3))})
	for i, x := range []struct {
		view, ground sectors
		pending      int
	}{
		{old, old, 0},
		{with(old, sectors{13: text(512)}), old, 1},
		{stored, old, 2},
		{stored, stored, 0},
		{freed, stored, 1},
		{freed, freed, 0},
		{whole, freed, 1},
		{whole, whole, 0},
	} {
		l := []int{i}
		switch i {
		case 0:
			l = append(l, far[:6]...)
		case 7:
			l = append(append(l, 8, 9, 100), far[6:]...)
		}
		for _, n := range l {
			d := laid(t, size, old)
			p := opened(t, d, at, places, pages{1: "defgh", 4: "abc"}, 7)
			put(t, p, 1, text(612), api.OK)
			steps(t, p, 8, n, i == 7, api.OK)
			holds(t, d, size, x.view, x.ground, x.pending)
			if i == 7 {
				is(t, p, pages{1: text(612), 4: "abc"}, 8)
				opened(t, d, at, places, pages{1: text(612), 4: "abc"}, 8)
			}
			d.Crash(nil)
			if i < 7 {
				opened(t, d, at, places, pages{1: "defgh", 4: "abc"}, 7)
			}
		}
	}
}

// TestCount holds how many steps a commit has: one for each part of a page that was written and still exists, and five.
func TestCount(t *testing.T) {
	for _, x := range []struct {
		lengths []int // of the pages from 1 on: below 0 is one that is freed again
		parts   int
	}{
		{nil, 0}, {[]int{0}, 0}, {[]int{1}, 1}, {[]int{511}, 1}, {[]int{512}, 1}, {[]int{513}, 2}, {[]int{1024}, 2}, {[]int{1025}, 3},
		{[]int{1536}, 3}, {[]int{1537}, 4}, {[]int{2047}, 4}, {[]int{2048}, 4}, {[]int{-1}, 0}, {[]int{-1, -1, -1, 513}, 2},
		{[]int{0, 0, 0}, 0}, {[]int{1, 0, 2048}, 5}, {[]int{2048, 2048, 2048}, 12}, {[]int{600, -1, 600, 600}, 6},
	} {
		for n := range x.parts + 7 {
			d := fresh(t, size)
			p := opened(t, d, at, places, nil, 0)
			want := pages{}
			for i, length := range x.lengths {
				put(t, p, i+1, text(max(length, 7)), api.OK)
				if length < 0 {
					free(t, p, i+1, api.OK)
				} else {
					put(t, p, i+1, text(length), api.OK)
					want[i+1] = text(length)
				}
			}
			done := n >= x.parts+5
			steps(t, p, 9, n, done, api.OK)
			if n <= x.parts && d.Pending() != n {
				t.Errorf("%d: %d operations are pending after %d steps", x.lengths, d.Pending(), n)
			}
			d.Crash(nil)
			if done {
				opened(t, d, at, places, want, 9)
			} else {
				opened(t, d, at, places, nil, 0)
			}
		}
	}
}

// TestFull has each number of committed and of written pages: a commit does nothing just if there are too few free slots.
func TestFull(t *testing.T) {
	for places := 2; places < 6; places++ {
		for committed := range places + 1 {
			for written := range 7 {
				for gone := range 3 {
					full(t, places, committed, written, gone)
				}
			}
		}
	}
}

func full(t *testing.T, places, committed, written, gone int) {
	t.Helper()
	d := fresh(t, 50)
	p := opened(t, d, at, places, nil, 0)
	old := pages{}
	for id := range committed {
		old[id] = fmt.Sprint("old", id)
		put(t, p, id, old[id], api.OK)
	}
	commit(t, p, 1, api.OK)
	d.Write(1, []byte("else"))
	want := maps.Clone(old)
	for id := range written + gone {
		put(t, p, id, "new", api.OK)
		put(t, p, id, "newer", api.OK)
		want[id] = "newer"
	}
	for id := range gone {
		free(t, p, id, api.OK)
		delete(want, id)
	}
	ground := grounded(d, nil, 50)
	view := contents(d, 50)
	if written > places-committed {
		for _, n := range []int{math.MinInt, -1, 0, 1, 5, 100, math.MaxInt} {
			steps(t, p, 2, n, false, api.ErrPagerFull)
		}
		commit(t, p, 2, api.ErrPagerFull)
		is(t, p, want, 1)
		holds(t, d, 50, view, ground, 1)
		for id := gone; written > places-committed; id++ {
			free(t, p, id, api.OK)
			delete(want, id)
			written--
		}
	}
	commit(t, p, 2, api.OK)
	is(t, p, want, 2)
	opened(t, d, at, places, want, 2)
}

// TestFreeSlots holds that the slots of pages that were freed, or written anew, since the last commit are not free yet.
func TestFreeSlots(t *testing.T) {
	d := fresh(t, size)
	p := opened(t, d, at, 2, nil, 0)
	put(t, p, 0, "a", api.OK)
	put(t, p, 1, "b", api.OK)
	commit(t, p, 1, api.OK)
	free(t, p, 0, api.OK)
	free(t, p, 1, api.OK)
	put(t, p, 2, "c", api.OK)
	commit(t, p, 2, api.ErrPagerFull)
	free(t, p, 2, api.OK)
	commit(t, p, 2, api.OK) // now both are free
	put(t, p, 2, "c", api.OK)
	put(t, p, 3, "d", api.OK)
	commit(t, p, 3, api.OK)
	is(t, p, pages{2: "c", 3: "d"}, 3)
	opened(t, d, at, 2, pages{2: "c", 3: "d"}, 3)
}

// TestMost commits 90 pages of 2048 bytes with the longest stored string of all: from the last slots they go to the first ones, to those behind these, and back.
func TestMost(t *testing.T) {
	l := []uint64{math.MaxUint64, 90}
	want := pages{}
	held := sectors{}
	for id := range 90 {
		slot := 255 - id
		l = append(l, uint64(id), uint64(slot), 2048)
		want[id] = strings.Repeat(fmt.Sprintf("%02d", id), 1024)
		for i := range 4 {
			held[64510+2+4*slot+i] = want[id][:512]
		}
	}
	held[64510] = enc(math.MaxUint64-9, nums(l...))
	d := laid(t, 65536, held)
	p := opened(t, d, 64510, 256, want, math.MaxUint64)
	steps(t, p, math.MaxUint64, 5, true, api.OK)
	held[64511] = enc(math.MaxUint64-8, nums(l...))
	holds(t, d, 65536, held, held, 0)
	for k := range 3 {
		l = l[:2]
		for id := range 90 {
			want[id] = strings.Repeat(string(rune('a'+k))+want[id][:1], 1024)
			put(t, p, id, want[id], api.OK)
			slot := 90*(k%2) + id
			l = append(l, uint64(id), uint64(slot), 2048)
			for i := range 4 {
				held[64510+2+4*slot+i] = want[id][:512]
			}
		}
		if k == 0 {
			steps(t, p, math.MaxUint64-1, 365, true, api.OK)
		} else {
			commit(t, p, math.MaxUint64-1, api.OK)
		}
		held[64510+k%2] = enc(math.MaxUint64-7+uint64(k), nums(append([]uint64{math.MaxUint64 - 1}, l[1:]...)...))
		holds(t, d, 65536, held, held, 0)
		opened(t, d, 64510, 256, want, math.MaxUint64-1)
	}
}

// TestAgain commits the same view again: nothing but the meta page is written.
func TestAgain(t *testing.T) {
	d := fresh(t, size)
	p := opened(t, d, at, places, nil, 0)
	put(t, p, 8, "a", api.OK)
	for i := range uint64(5) {
		commit(t, p, 10-i, api.OK)
		is(t, p, pages{8: "a"}, 10-i)
		want := sectors{at + int(i%2): enc(i+1, nums(10-i, 1, 8, 0, 1)), at + 2: "a"}
		if i > 0 {
			want[at+1-int(i%2)] = enc(i, nums(11-i, 1, 8, 0, 1))
		}
		holds(t, d, size, want, want, 0)
		opened(t, d, at, places, pages{8: "a"}, 10-i)
	}
}

// TestSame holds that a page that is written with the bytes it has is written.
func TestSame(t *testing.T) {
	d := fresh(t, size)
	p := opened(t, d, at, places, nil, 0)
	put(t, p, 8, "a", api.OK)
	commit(t, p, 1, api.OK)
	put(t, p, 8, "a", api.OK)
	steps(t, p, 2, 6, true, api.OK)
	want := sectors{at: enc(1, nums(1, 1, 8, 0, 1)), at + 1: enc(2, nums(2, 1, 8, 1, 1)), at + 2: "a", at + 6: "a"}
	holds(t, d, size, want, want, 0)
}

// TestDiskFull commits on disks on which a step fails.
func TestDiskFull(t *testing.T) {
	for limit := range 9 {
		x := paired(t, nil, places)
		x.put(t, 3, text(600))
		x.put(t, 1, text(1024))
		x.both(func(d *disk.Disk) {
			d.Write(0, []byte("else"))
			d.Limit(limit)
		})
		x.commit(t, 5)
		x.open(t)
		if limit < 6 != (x.p.tag == 0) {
			t.Errorf("limit %d: the tag is %d", limit, x.p.tag)
		}
	}
}

// TestNoSector commits on disks that have not all sectors.
func TestNoSector(t *testing.T) {
	for n := 1; n < at+2+4*places; n++ {
		for _, written := range [][]int{nil, {0}, {0, 0, 1}, {2048}, {5, 2048, 513}, {1, 1, 1}} {
			d, other := fresh(t, n), fresh(t, n)
			x := &pair{d: d, p: &plain{d: other, at: at, places: places}}
			x.open(t)
			for id, length := range written {
				x.put(t, id, text(length))
			}
			x.commit(t, 5)
			x.open(t)
			if want := n > at && reach(written) <= n; want != (x.p.tag == 5) {
				t.Errorf("%d sectors, %d: the tag is %d", n, written, x.p.tag)
			}
		}
	}
}

// reach is how many sectors the first commit of such pages needs.
func reach(written []int) int {
	n := at + 1
	for i, length := range written {
		if length > 0 {
			n = at + 2 + 4*i + (length+511)/512
		}
	}
	return n
}

// plain is a pager in the plainest way.
type plain struct {
	d          *disk.Disk
	m          *meta.Meta
	at, places int
	tag        uint64
	last, view map[int]entry
}

// entry is a page: what it holds, and its slot, or -1 if it was written since the last commit.
type entry struct {
	slot int
	text string
}

func (p *plain) open() {
	m, s, e := meta.Open(p.d, p.at)
	p.m, p.tag, p.last = m, 0, map[int]entry{}
	if e == api.OK {
		x, ok := parse(s, p.places)
		if !ok {
			panic("a string that is none")
		}
		p.tag = x.tag
		for _, y := range x.pages {
			p.last[int(y[0])] = entry{int(y[1]), p.text(int(y[1]), int(y[2]))}
		}
	}
	p.drop()
}

func (p *plain) text(slot, length int) string {
	s := ""
	for i := 0; i*512 < length; i++ {
		b, e := p.d.Read(p.at + 2 + 4*slot + i)
		if e != api.OK || len(b) != min(512, length-512*i) {
			panic("a page that is not there")
		}
		s += string(b)
	}
	return s
}

func (p *plain) drop() { p.view = maps.Clone(p.last) }

func (p *plain) pages() pages {
	m := pages{}
	for id, x := range p.view {
		m[id] = x.text
	}
	return m
}

func (p *plain) alloc(s string) (int, api.Errno) {
	if len(s) > 2048 {
		return 0, api.ErrPagerLong
	}
	for id := 0; id < 90; id++ {
		if _, ok := p.view[id]; !ok {
			p.view[id] = entry{-1, s}
			return id, api.OK
		}
	}
	return 0, api.ErrPagerFull
}

func (p *plain) put(id int, s string) api.Errno {
	if id < 0 || id > 89 {
		return api.ErrPagerPage
	}
	if len(s) > 2048 {
		return api.ErrPagerLong
	}
	p.view[id] = entry{-1, s}
	return api.OK
}

func (p *plain) free(id int) api.Errno {
	if _, ok := p.view[id]; !ok {
		return api.ErrPagerPage
	}
	delete(p.view, id)
	return api.OK
}

// list is the steps of a commit that come before those of the meta page, and the state to be committed; nil if there are too few slots.
func (p *plain) list() ([]func() api.Errno, map[int]entry) {
	next := map[int]entry{}
	var todo []func() api.Errno
	used := make([]bool, p.places)
	for _, x := range p.last {
		used[x.slot] = true
	}
	for id := 0; id < 90; id++ {
		x, ok := p.view[id]
		if !ok {
			continue
		}
		if x.slot < 0 {
			x.slot = slices.Index(used, false)
			if x.slot < 0 {
				return nil, nil
			}
			used[x.slot] = true
			for i := 0; 512*i < len(x.text); i++ {
				sector, part := p.at+2+4*x.slot+i, x.text[512*i:min(512*i+512, len(x.text))]
				todo = append(todo, func() api.Errno { return p.d.Write(sector, []byte(part)) })
			}
		}
		next[id] = x
	}
	return append(todo, func() api.Errno { p.d.Sync(); return api.OK }), next
}

func (p *plain) steps(tag uint64, n int) (bool, api.Errno) {
	todo, next := p.list()
	if next == nil {
		return false, api.ErrPagerFull
	}
	for i, do := range todo {
		if i >= n {
			return false, api.OK
		}
		if e := do(); e != api.OK {
			return false, e
		}
	}
	l := []uint64{tag, uint64(len(next))}
	for id := 0; id < 90; id++ {
		if x, ok := next[id]; ok {
			l = append(l, uint64(id), uint64(x.slot), uint64(len(x.text)))
		}
	}
	done, e := p.m.Steps(nums(l...), n-len(todo))
	if done {
		p.tag, p.last = tag, next
		p.drop()
	}
	return done, e
}

// pair is a pager with the plain one, each on a disk of its own.
type pair struct {
	q *Pager
	d *disk.Disk
	p *plain
}

func paired(t testing.TB, held sectors, places int) *pair {
	t.Helper()
	x := &pair{d: laid(t, size, held), p: &plain{d: laid(t, size, held), at: at, places: places}}
	x.open(t)
	return x
}

func (x *pair) open(t testing.TB) {
	t.Helper()
	x.p.open()
	x.q = opened(t, x.d, x.p.at, x.p.places, x.p.pages(), x.p.tag)
}

// both does something to both disks.
func (x *pair) both(do func(d *disk.Disk)) {
	do(x.d)
	do(x.p.d)
}

func (x *pair) put(t testing.TB, id int, s string) {
	t.Helper()
	put(t, x.q, id, s, x.p.put(id, s))
}

func (x *pair) free(t testing.TB, id int) {
	t.Helper()
	free(t, x.q, id, x.p.free(id))
}

func (x *pair) commit(t testing.TB, tag uint64) {
	t.Helper()
	_, e := x.p.steps(tag, 1000)
	commit(t, x.q, tag, e)
	same(t, x.d, x.p.d, size)
}

// stop does some steps of a commit, and then, unless it was completed, opens both anew.
func (x *pair) stop(t testing.TB, tag uint64, n int, crash func(d *disk.Disk)) {
	t.Helper()
	done, e := x.p.steps(tag, n)
	steps(t, x.q, tag, n, done, e)
	same(t, x.d, x.p.d, size)
	if !done && e != api.ErrPagerFull {
		x.both(crash)
		x.open(t)
	}
}

// actions is how many actions act knows.
const actions = 18

// act does an action to both, and holds them against each other.
func (x *pair) act(t testing.TB, action int, tag uint64) {
	t.Helper()
	s := fmt.Sprint("tag ", tag)
	switch action {
	case 0, 1, 2:
		x.put(t, action, s)
	case 3:
		x.put(t, 89, strings.Repeat(s, 2048/len(s)))
	case 4:
		x.put(t, 1, "")
	case 5, 6, 7:
		x.free(t, action-5)
	case 8:
		id, e := x.p.alloc(s)
		alloc(t, x.q, s, id, e)
	case 9:
		x.q.Drop()
		x.p.drop()
	case 10, 11:
		x.commit(t, tag)
	case 12, 13, 14, 15:
		x.stop(t, tag, []int{1, 2, 4, 6}[action-12], func(d *disk.Disk) { d.Crash([]api.Survivor{{Write: 0, Bytes: 512}}) })
	case 16:
		x.stop(t, tag, 5, func(d *disk.Disk) { d.Crash(nil) })
	case 17:
		x.both(func(d *disk.Disk) { d.Crash(nil) })
		x.open(t)
	}
	is(t, x.q, x.p.pages(), x.p.tag)
}

// starts are what disks hold at first.
func starts() []sectors {
	return []sectors{
		{},
		{at: enc(6, nums(9, 2, 0, 1, 3, 2, 0, 0)), at + 1: enc(5, nums(8, 0)), at + 2: "old", at + 3: "more", at + 6: "abc"},
		{at + 1: enc(6, nums(9, 3, 0, 1, 3, 1, 2, 600, 2, 0, 1)), at + 2: "c", at + 6: "abc", at + 10: text(512), at + 11: text(88)},
	}
}

// TestPlain does all sequences of some actions.
func TestPlain(t *testing.T) {
	const many = 3
	for _, held := range starts() {
		for _, places := range []int{3, 4} {
			for k := range actions * actions * actions {
				x := paired(t, held, min(places, 3))
				if places == 4 {
					x.act(t, 2, 99)
					x.act(t, 10, 100)
				}
				for i := range many {
					x.act(t, k%actions, uint64(101+i))
					k /= actions
				}
			}
		}
	}
}

// TestPlainLong does long sequences of such actions.
func TestPlainLong(t *testing.T) {
	r := rand.New(rand.NewPCG(13, 2))
	for i := range 1000 {
		x := paired(t, starts()[i%3], 3)
		for k := range 60 {
			x.act(t, r.IntN(actions), uint64(r.IntN(1<<(k+1))))
		}
	}
}

// P13.4

// survivors are all the ways in which pending operations survive: each is lost, torn after some bytes, or complete.
func survivors(pending int, bytes []int) [][]api.Survivor {
	ways := [][]api.Survivor{nil}
	for i := range pending {
		for _, l := range slices.Clone(ways) {
			for _, b := range bytes {
				ways = append(ways, append(slices.Clone(l), api.Survivor{Write: i, Bytes: b}))
			}
		}
	}
	return ways
}

// changes are what is done to pages between two commits.
func changes() []func(t testing.TB, p *Pager) {
	return []func(t testing.TB, p *Pager){
		func(t testing.TB, p *Pager) {},
		func(t testing.TB, p *Pager) { put(t, p, 0, "new", api.OK) },
		func(t testing.TB, p *Pager) { put(t, p, 7, text(2048), api.OK) },
		func(t testing.TB, p *Pager) { put(t, p, 2, text(700), api.OK); put(t, p, 50, text(513), api.OK) },
		func(t testing.TB, p *Pager) {
			for _, id := range p.Pages() {
				free(t, p, id, api.OK)
			}
		},
		func(t testing.TB, p *Pager) {
			for _, id := range p.Pages() {
				put(t, p, id, fmt.Sprint("new ", id), api.OK)
			}
		},
	}
}

// now is what the pages of a pager are.
func now(t testing.TB, p *Pager) pages {
	t.Helper()
	m := pages{}
	for _, id := range p.Pages() {
		b, e := p.Read(id)
		if e != api.OK {
			t.Fatal(id, e)
		}
		m[id] = string(b)
	}
	return m
}

// started opens a pager on such a disk and does a change.
func started(t testing.TB, held sectors, change func(t testing.TB, p *Pager)) (*disk.Disk, *Pager) {
	t.Helper()
	d := laid(t, 40, held)
	p, e := Open(d, at, 8)
	if e != api.OK {
		t.Fatal(e)
	}
	change(t, p)
	return d, p
}

// TestCrash crashes after each number of steps of a commit, in all ways: the state is the new one just if all was done but the last sync and the write of the meta page survives completely, or if all was done.
func TestCrash(t *testing.T) {
	for _, held := range starts() {
		_, p := started(t, held, func(testing.TB, *Pager) {})
		old, tag := now(t, p), p.Tag()
		for _, change := range changes() {
			_, p := started(t, held, change)
			next := now(t, p)
			parts := 0
			for _, b := range p.written {
				parts += (len(b) + 511) / 512
			}
			for n := range parts + 6 {
				d, p := started(t, held, change)
				steps(t, p, 77, n, n == parts+5, api.OK)
				for _, l := range survivors(d.Pending(), []int{-1, 5, 300, 512}) { // a meta page has less than 300 bytes here
					c := d.Copy()
					c.Crash(l)
					if n == parts+5 || n == parts+4 && len(l) == 1 && l[0].Bytes >= 300 {
						goes(t, c, opened(t, c, at, 8, next, 77))
					} else {
						goes(t, c, opened(t, c, at, 8, old, tag))
					}
				}
			}
		}
	}
}

// goes holds that a pager that was opened after a crash goes on as any other.
func goes(t testing.TB, d *disk.Disk, p *Pager) {
	t.Helper()
	want := now(t, p)
	put(t, p, 60, "more", api.OK)
	want[60] = "more"
	for id := range want {
		if id < 60 {
			free(t, p, id, api.OK)
			delete(want, id)
			break
		}
	}
	commit(t, p, 1000, api.OK)
	d.Crash(nil)
	opened(t, d, at, 8, want, 1000)
}

// TestCrashAgain does changes, commits that are not all completed, and crashes, and goes on with what the crash left: the last committed state, or the one that was to be committed.
func TestCrashAgain(t *testing.T) {
	r := rand.New(rand.NewPCG(13, 3))
	olds, news := 0, 0
	for range 800 {
		d := fresh(t, size)
		p := opened(t, d, at, places, nil, 0)
		old, tag := pages{}, uint64(0)
		for k := range uint64(15) {
			changed(t, r, p)
			next := now(t, p)
			if r.IntN(5) == 0 {
				d.Limit(d.Used() + r.IntN(3))
			}
			done, e := p.Steps(k+1, r.IntN(16))
			d.Limit(size)
			switch {
			case done:
				old, tag = next, k+1
			case e == api.ErrPagerFull:
				next = old
			case e != api.OK && e != api.ErrDiskFull:
				t.Fatal(e)
			}
			l := []api.Survivor{}
			for i := range d.Pending() {
				if r.IntN(3) > 0 {
					l = append(l, api.Survivor{Write: i, Bytes: []int{0, 1, 11, 100, 512, 512, 512}[r.IntN(7)]})
				}
			}
			d.Crash(l)
			p, e = Open(d, at, places)
			if e != api.OK {
				t.Fatal(e)
			}
			if p.Tag() == k+1 && !done {
				old, tag = next, k+1
				news++
			} else if !done {
				olds++
			}
			is(t, p, old, tag)
		}
	}
	if olds < 1000 || news < 100 {
		t.Errorf("%d old and %d new states: too few to tell", olds, news)
	}
}

// changed changes some pages.
func changed(t testing.TB, r *rand.Rand, p *Pager) {
	t.Helper()
	for range r.IntN(4) {
		id := r.IntN(4)
		switch r.IntN(4) {
		case 0:
			p.Free(id)
		case 1:
			p.Drop()
		default:
			put(t, p, id, strings.Repeat(fmt.Sprint(r.IntN(1000)), r.IntN(400)), api.OK)
		}
	}
}

// P1: every call ends without a panic, leaves what it is given alone, and answers new memory.

// TestMemory holds that bytes are kept by neither side, and that what is given is not changed, nor what lies behind it.
func TestMemory(t *testing.T) {
	d := fresh(t, size)
	p := opened(t, d, at, places, nil, 0)
	b := []byte("abcdefgh")
	if e := p.Write(0, b[:3]); e != api.OK {
		t.Fatal(e)
	}
	if id, e := p.Alloc(b[3:5]); id != 1 || e != api.OK {
		t.Fatal(id, e)
	}
	if string(b) != "abcdefgh" {
		t.Errorf("what was given became %q", b)
	}
	clear(b)
	want := pages{0: "abc", 1: "de"}
	spoil := func(tag uint64) {
		t.Helper()
		for id := range 2 {
			one, _ := p.Read(id)
			two, _ := p.Read(id)
			clear(one[:cap(one)])
			if string(two) != want[id] {
				t.Errorf("two answers of Read(%d) share memory", id)
			}
		}
		ids, again := p.Pages(), p.Pages()
		clear(ids[:cap(ids)])
		if !slices.Equal(again, []int{0, 1}) {
			t.Error("two answers of Pages share memory")
		}
		is(t, p, want, tag)
	}
	spoil(0)
	commit(t, p, 1, api.OK)
	spoil(1)
	p = opened(t, d, at, places, want, 1)
	spoil(1)
	p.Drop()
	spoil(1)
}

// TestRepeat holds that reading changes nothing.
func TestRepeat(t *testing.T) {
	d := fresh(t, size)
	p := opened(t, d, at, places, nil, 0)
	put(t, p, 3, "a", api.OK)
	commit(t, p, 1, api.OK)
	put(t, p, 3, "b", api.OK)
	put(t, p, 4, "c", api.OK)
	held := contents(d, size)
	for range 3 {
		is(t, p, pages{3: "b", 4: "c"}, 1)
		holds(t, d, size, held, held, 0)
	}
}

// TestBeside has pagers side by side: each has its own sectors.
func TestBeside(t *testing.T) {
	d := fresh(t, 30)
	var l []*Pager
	for i := range 3 {
		l = append(l, opened(t, d, 10*i, 2, nil, 0))
	}
	for k := range uint64(5) {
		for i, p := range l {
			put(t, p, int(k)*10+i, fmt.Sprint("page of ", i), api.OK)
			if k > 0 {
				free(t, p, int(k-1)*10+i, api.OK)
			}
			commit(t, p, 100*k+uint64(i), api.OK)
		}
	}
	d.Crash(nil)
	for i, p := range l {
		want := pages{40 + i: fmt.Sprint("page of ", i)}
		is(t, p, want, 400+uint64(i))
		opened(t, d, 10*i, 2, want, 400+uint64(i))
	}
}

// TestApart opens a pager on a disk and on its copy.
func TestApart(t *testing.T) {
	d := fresh(t, size)
	p := opened(t, d, at, places, nil, 0)
	put(t, p, 0, "a", api.OK)
	commit(t, p, 1, api.OK)
	c := d.Copy()
	q := opened(t, c, at, places, pages{0: "a"}, 1)
	put(t, p, 0, "b", api.OK)
	put(t, q, 1, "c", api.OK)
	commit(t, p, 2, api.OK)
	is(t, p, pages{0: "b"}, 2)
	is(t, q, pages{0: "a", 1: "c"}, 1)
	commit(t, q, 3, api.OK)
	opened(t, d, at, places, pages{0: "b"}, 2)
	opened(t, c, at, places, pages{0: "a", 1: "c"}, 3)
}

// TestEnds calls everything with all arguments that are far off, also after a commit that was not completed.
func TestEnds(t *testing.T) {
	l := append(far, 0, 1, 2, 3, 6, 89, 90)
	for n := range 9 {
		d := fresh(t, size)
		p := opened(t, d, at, places, nil, 0)
		put(t, p, 1, text(600), api.OK)
		p.Steps(5, n)
		for _, x := range l {
			p.Read(x)
			p.Write(x, nil)
			p.Free(x)
			p.Write(x, []byte(text(600)))
			p.Steps(uint64(x), x)
			for _, y := range l {
				Open(d, x, y)
			}
		}
		p.Alloc(nil)
		p.Pages()
		p.Tag()
		p.Commit(math.MaxUint64)
		p.Drop()
		p.Commit(0)
	}
}

// TestMany commits often: what a pager keeps does not grow, nor does what lies on the disk.
func TestMany(t *testing.T) {
	d := fresh(t, size)
	p := opened(t, d, at, places, nil, 0)
	for k := range uint64(20000) {
		id := int(k % 90)
		put(t, p, id, fmt.Sprint(k), api.OK)
		if k > 0 {
			free(t, p, (id+89)%90, api.OK)
		}
		commit(t, p, k, api.OK)
	}
	is(t, p, pages{19999 % 90: "19999"}, 19999)
	if n := len(p.committed) + len(p.kept) + len(p.written); n > 2 || d.Used() > 2+12 {
		t.Errorf("%d pages are kept, and %d sectors in use", n, d.Used())
	}
	opened(t, d, at, places, pages{19999 % 90: "19999"}, 19999)
}

package disk

import (
	"bytes"
	"math"
	"math/rand"
	"slices"
	"strings"
	"testing"

	"lapstone/api"
)

// far are numbers of sectors that no disk has.
var far = []int{math.MinInt, -1 << 32, -api.MaxSectors, -2, -1, api.MaxSectors, api.MaxSectors + 1, 1 << 32, math.MaxInt}

// fresh returns a disk on which no sector is in use.
func fresh(t testing.TB, sectors int) *Disk {
	t.Helper()
	d, e := New(sectors)
	if d == nil || e != api.OK {
		t.Fatalf("New(%d) = %v, %d", sectors, d, e)
	}
	return d
}

func write(t testing.TB, d *Disk, n int, s string, want api.Errno) {
	t.Helper()
	if e := d.Write(n, []byte(s)); e != want {
		t.Fatalf("Write(%d, %.20q) = %d; want %d", n, s, e, want)
	}
}

func free(t testing.TB, d *Disk, n int, want api.Errno) {
	t.Helper()
	if e := d.Free(n); e != want {
		t.Fatalf("Free(%d) = %d; want %d", n, e, want)
	}
}

// holds checks that a sector is in use and holds s.
func holds(t testing.TB, d *Disk, n int, s string) {
	t.Helper()
	if b, e := d.Read(n); string(b) != s || e != api.OK {
		t.Fatalf("Read(%d) = %.20q, %d; want %.20q", n, b, e, s)
	}
}

// lacks checks that a sector is not in use.
func lacks(t testing.TB, d *Disk, n int) {
	t.Helper()
	if b, e := d.Read(n); b != nil || e != api.ErrDiskSector {
		t.Fatalf("Read(%d) = %.20q, %d; want ErrDiskSector", n, b, e)
	}
}

// counts checks how many sectors are in use, and how many operations are pending.
func counts(t testing.TB, d *Disk, used, pending int) {
	t.Helper()
	if d.Used() != used || d.Pending() != pending {
		t.Fatalf("%d used, %d pending; want %d, %d", d.Used(), d.Pending(), used, pending)
	}
}

// all returns survivors by which n operations survive completely.
func all(n int) []api.Survivor {
	var l []api.Survivor
	for i := range n {
		l = append(l, api.Survivor{Write: i, Bytes: api.SectorSize})
	}
	return l
}

// model is a disk worked out plainly: of a sector that is not in use the text is nil, and a free is an operation without a text.
type model struct {
	limit        int
	view, ground []*string
	pending      []pending
}

type pending struct {
	sector int
	text   *string
}

func newModel(sectors int) *model {
	return &model{limit: sectors, view: make([]*string, sectors), ground: make([]*string, sectors)}
}

func (m *model) copied() *model {
	return &model{m.limit, slices.Clone(m.view), slices.Clone(m.ground), slices.Clone(m.pending)}
}

func (m *model) used() int {
	n := 0
	for _, s := range m.view {
		if s != nil {
			n++
		}
	}
	return n
}

func (m *model) write(n int, s string) api.Errno {
	switch {
	case n < 0 || n >= len(m.view):
		return 61
	case len(s) > 512:
		return 62
	case m.view[n] == nil && m.used() >= m.limit:
		return 63
	}
	m.view[n] = &s
	m.pending = append(m.pending, pending{n, &s})
	return 0
}

func (m *model) read(n int) (string, api.Errno) {
	if n < 0 || n >= len(m.view) || m.view[n] == nil {
		return "", 61
	}
	return *m.view[n], 0
}

func (m *model) free(n int) api.Errno {
	if _, e := m.read(n); e != 0 {
		return e
	}
	m.view[n] = nil
	m.pending = append(m.pending, pending{sector: n})
	return 0
}

func (m *model) sync() {
	m.ground = slices.Clone(m.view)
	m.pending = nil
}

func (m *model) crash(l []api.Survivor) {
	for i, p := range m.pending {
		k := slices.IndexFunc(l, func(s api.Survivor) bool { return s.Write == i })
		if k >= 0 {
			m.survive(p, l[k].Bytes)
		}
	}
	m.view = slices.Clone(m.ground)
	m.pending = nil
}

// survive does a pending operation to the ground, byte by byte.
func (m *model) survive(p pending, n int) {
	if p.text == nil {
		m.ground[p.sector] = nil
		return
	}
	old := ""
	if m.ground[p.sector] != nil {
		old = *m.ground[p.sector]
	}
	text := ""
	for i := range 512 {
		switch {
		case i < len(*p.text) && i < n:
			text += string((*p.text)[i : i+1])
		case n < len(*p.text) && i < len(old):
			text += string(old[i : i+1])
		}
	}
	m.ground[p.sector] = &text
}

// compare holds all that is to be seen of a disk, on and around its sectors, against the model.
func compare(t testing.TB, d *Disk, m *model, what any) {
	t.Helper()
	if d.Used() != m.used() || d.Pending() != len(m.pending) {
		t.Fatalf("%v: %d used, %d pending; want %d, %d", what, d.Used(), d.Pending(), m.used(), len(m.pending))
	}
	for n := -1; n <= len(m.view); n++ {
		b, e := d.Read(n)
		if s, want := m.read(n); string(b) != s || e != want {
			t.Fatalf("%v: Read(%d) = %.20q, %d; want %.20q, %d", what, n, b, e, s, want)
		}
	}
}

// compareAfter holds a copy of a disk after a crash against the model.
func compareAfter(t testing.TB, d *Disk, m *model, l []api.Survivor) {
	t.Helper()
	c, n := d.Copy(), m.copied()
	c.Crash(l)
	n.crash(l)
	compare(t, c, n, l)
}

// action does the same to a disk and to the model, and tells whether they answered the same.
type action struct {
	name string
	do   func(d *Disk, m *model) bool
}

func writing(n int, s string) action {
	return action{"write " + s, func(d *Disk, m *model) bool { return d.Write(n, []byte(s)) == m.write(n, s) }}
}

func freeing(n int) action {
	return action{"free", func(d *Disk, m *model) bool { return d.Free(n) == m.free(n) }}
}

func syncing() action {
	return action{"sync", func(d *Disk, m *model) bool { d.Sync(); m.sync(); return true }}
}

func crashing(l ...api.Survivor) action {
	return action{"crash", func(d *Disk, m *model) bool { d.Crash(l); m.crash(l); return true }}
}

func limiting(n int) action {
	return action{"limit", func(d *Disk, m *model) bool { d.Limit(n); m.limit = n; return true }}
}

// sequences calls f with a disk on which each sequence of up to n actions was done, and with the model of it.
func sequences(t *testing.T, sectors, n int, l []action, f func(d *Disk, m *model)) {
	var more func(d *Disk, m *model, names []string)
	more = func(d *Disk, m *model, names []string) {
		compare(t, d, m, names)
		f(d, m)
		if len(names) == n {
			return
		}
		for _, a := range l {
			c, k, names := d.Copy(), m.copied(), append(slices.Clip(names), a.name)
			if !a.do(c, k) {
				t.Fatalf("%q: another error", names)
			}
			more(c, k, names)
		}
	}
	more(fresh(t, sectors), newModel(sectors), nil)
}

// survivors calls f with all lists of survivors of n operations: each of them is lost, or survives by one of the numbers of bytes.
func survivors(n int, sizes []int, f func(l []api.Survivor)) {
	var more func(i int, l []api.Survivor)
	more = func(i int, l []api.Survivor) {
		if i == n {
			f(l)
			return
		}
		more(i+1, l)
		for _, size := range sizes {
			more(i+1, append(slices.Clip(l), api.Survivor{Write: i, Bytes: size}))
		}
	}
	more(0, nil)
}

// P6.1

func TestNew(t *testing.T) {
	for _, n := range []int{math.MinInt, -1 << 32, -1, 0, api.MaxSectors + 1, 1<<32 + 1, math.MaxInt} {
		if d, e := New(n); d != nil || e != api.ErrDiskSize {
			t.Errorf("New(%d) = %v, %d", n, d, e)
		}
	}
	for _, n := range []int{1, 2, 3, 100, api.MaxSectors - 1, api.MaxSectors} {
		d := fresh(t, n)
		counts(t, d, 0, 0)
		for i := range n {
			lacks(t, d, i)
		}
		write(t, d, 0, "a", 0)
		write(t, d, n-1, "z", 0)
		write(t, d, n, "", 61)
		holds(t, d, n-1, "z")
	}
}

func TestWriteRead(t *testing.T) {
	d := fresh(t, 3)
	text := strings.Repeat("\x00\xffé", 200)[:api.SectorSize]
	for i, s := range []string{"abc", "", "x", text, text[:511], "abcdef", "q"} { // what is longer or shorter replaces all
		write(t, d, 1, s, 0)
		holds(t, d, 1, s)
		counts(t, d, 1, i+1)
	}
	if d.Write(2, nil) != api.OK || d.Write(0, []byte{}) != api.OK {
		t.Fatal("an empty write")
	}
	holds(t, d, 0, "")
	holds(t, d, 1, "q")
	holds(t, d, 2, "") // a sector in use may hold nothing
	counts(t, d, 3, 9)
	d.Sync()
	write(t, d, 1, "other", 0)
	holds(t, d, 1, "other")
	counts(t, d, 3, 1)
}

func TestSectorError(t *testing.T) {
	d := fresh(t, 3)
	for range 2 { // on an empty disk and on a full one
		used, n := d.Used(), d.Pending()
		for _, i := range append([]int{3, 4}, far...) {
			write(t, d, i, "", 61)
			write(t, d, i, "abc", 61)
			write(t, d, i, strings.Repeat("x", 513), 61) // the sector comes first
			free(t, d, i, 61)
			lacks(t, d, i)
		}
		counts(t, d, used, n)
		for i := range 3 {
			d.Write(i, nil)
		}
	}
}

func TestWriteLong(t *testing.T) {
	d := fresh(t, 2)
	write(t, d, 0, "old", 0)
	for _, n := range []int{513, 514, 1024, 1 << 16, 1 << 24} {
		s := strings.Repeat("x", n)
		write(t, d, 0, s, 62)
		write(t, d, 1, s, 62)
		d.Limit(0)
		write(t, d, 1, s, 62) // before the disk is full
		d.Limit(2)
	}
	holds(t, d, 0, "old")
	lacks(t, d, 1)
	counts(t, d, 1, 1)
	write(t, d, 1, strings.Repeat("x", 512), 0)
}

func TestFree(t *testing.T) {
	d := fresh(t, 3)
	free(t, d, 0, 61)
	write(t, d, 0, "a", 0)
	write(t, d, 1, "", 0)
	counts(t, d, 2, 2)
	free(t, d, 0, 0)
	free(t, d, 0, 61)
	free(t, d, 2, 61)
	lacks(t, d, 0)
	holds(t, d, 1, "")
	counts(t, d, 1, 3) // a free that is an error isn't pending
	free(t, d, 1, 0)
	lacks(t, d, 1)
	counts(t, d, 0, 4)
	write(t, d, 1, "again", 0)
	holds(t, d, 1, "again")
	counts(t, d, 1, 5)
	d.Sync()
	free(t, d, 1, 0) // one that is in use in the ground
	free(t, d, 1, 61)
	lacks(t, d, 1)
	counts(t, d, 0, 1)
	d.Sync()
	free(t, d, 1, 61)
	counts(t, d, 0, 0)
}

// TestFirstLimit fills disks up to their limit, which is their number of sectors at first.
func TestFirstLimit(t *testing.T) {
	for _, n := range []int{1, 2, 5, 1000} {
		d := fresh(t, n)
		for i := range n {
			write(t, d, n-1-i, "a", 0)
		}
		counts(t, d, n, n)
		write(t, d, 0, "b", 0)
		d.Limit(n - 1)
		write(t, d, 0, "c", 0)
		free(t, d, 0, 0)
		write(t, d, 0, "d", 63)
	}
}

// P6.2

func TestLimit(t *testing.T) {
	for used := range 5 {
		for _, limit := range []int{math.MinInt, -1, 0, 1, 2, 3, 4, 5, 6, math.MaxInt} {
			d := fresh(t, 5)
			for i := range used {
				write(t, d, i, "a", 0)
			}
			d.Limit(limit)
			counts(t, d, used, used) // what is in use stays in use
			for i := range used {
				write(t, d, i, "b", 0) // no new sector
				holds(t, d, i, "b")
			}
			if used >= limit {
				write(t, d, used, "c", 63)
				lacks(t, d, used)
				counts(t, d, used, 2*used)
			} else {
				write(t, d, used, "c", 0)
				counts(t, d, used+1, 2*used+1)
			}
		}
	}
}

// TestLimitStays holds that neither a sync nor a crash changes the limit, which counts the sectors of the view alone.
func TestLimitStays(t *testing.T) {
	d := fresh(t, 5)
	d.Limit(2)
	write(t, d, 0, "a", 0)
	write(t, d, 1, "b", 0)
	write(t, d, 2, "c", 63)
	d.Sync()
	write(t, d, 2, "c", 63)
	free(t, d, 0, 0)
	write(t, d, 2, "c", 0) // on the ground are two others
	write(t, d, 3, "d", 63)
	d.Crash([]api.Survivor{{Write: 1, Bytes: 9}})
	counts(t, d, 3, 0) // a crash may leave more than the limit
	write(t, d, 2, "e", 0)
	free(t, d, 1, 0)
	write(t, d, 3, "d", 63)
	free(t, d, 0, 0)
	write(t, d, 3, "d", 0)
	d.Crash(nil)
	write(t, d, 4, "f", 63)
	d.Limit(6) // above the number of sectors
	write(t, d, 3, "d", 0)
	write(t, d, 4, "f", 0)
	write(t, d, 5, "g", 61)
	counts(t, d, 5, 2)
}

func TestSync(t *testing.T) {
	d := fresh(t, 4)
	d.Sync()
	counts(t, d, 0, 0)
	write(t, d, 0, "a", 0)
	write(t, d, 1, "b", 0)
	write(t, d, 0, "c", 0)
	write(t, d, 2, "d", 0)
	free(t, d, 1, 0)
	counts(t, d, 2, 5)
	d.Sync()
	counts(t, d, 2, 0)
	for range 2 { // what was synced stays, and just that
		holds(t, d, 0, "c")
		lacks(t, d, 1)
		holds(t, d, 2, "d")
		lacks(t, d, 3)
		d.Crash(all(9))
		d.Sync()
		counts(t, d, 2, 0)
	}
	free(t, d, 0, 0)
	d.Crash(nil)
	holds(t, d, 0, "c")
	free(t, d, 0, 0)
	d.Sync()
	d.Crash(nil)
	lacks(t, d, 0)
	counts(t, d, 1, 0)
}

func TestCopy(t *testing.T) {
	d := fresh(t, 4)
	d.Limit(3)
	write(t, d, 0, "ground", 0)
	write(t, d, 1, "gone", 0)
	d.Sync()
	write(t, d, 0, "view", 0)
	free(t, d, 1, 0)
	write(t, d, 2, "new", 0)
	c := d.Copy()
	write(t, d, 0, "d", 0)
	free(t, d, 2, 0)
	write(t, c, 0, "c", 0)
	write(t, c, 1, "cc", 0)
	write(t, c, 3, "full", 63)
	d.Limit(0)
	free(t, c, 1, 0)
	write(t, c, 3, "ccc", 0)
	again := c.Copy()
	counts(t, d, 1, 5)
	counts(t, c, 3, 7)
	d.Crash(all(5))
	counts(t, c, 3, 7)
	holds(t, d, 0, "d")
	lacks(t, d, 1)
	lacks(t, d, 2)
	c.Crash(all(7))
	holds(t, c, 0, "c")
	lacks(t, c, 1)
	holds(t, c, 2, "new")
	holds(t, c, 3, "ccc")
	d.Sync()
	c.Sync()
	again.Crash(nil)
	holds(t, again, 0, "ground")
	holds(t, again, 1, "gone")
	counts(t, again, 2, 0)
	counts(t, d, 1, 0)
	counts(t, c, 3, 0)
}

// TestCopyPending holds that copies add pending operations of their own, however many there were.
func TestCopyPending(t *testing.T) {
	for n := range 40 {
		d := fresh(t, 3)
		for range n {
			write(t, d, 0, "a", 0)
		}
		c := d.Copy()
		b := c.Copy()
		write(t, d, 0, "d", 0)
		write(t, c, 1, "c", 0)
		write(t, b, 2, "b", 0)
		for i, x := range []*Disk{d, c, b} {
			x.Crash([]api.Survivor{{Write: n, Bytes: 9}})
			holds(t, x, i, string("dcb"[i]))
			counts(t, x, 1, 0)
		}
	}
}

// P6.3

func TestCrashExample(t *testing.T) {
	d := fresh(t, 9)
	write(t, d, 3, "abc", 0)
	d.Sync()
	write(t, d, 3, "xy", 0)
	write(t, d, 4, "q", 0)
	d.Crash([]api.Survivor{{Write: 0, Bytes: 1}})
	holds(t, d, 3, "xbc")
	lacks(t, d, 4)
	counts(t, d, 1, 0)
}

// TestTorn tears one write at every place, over a sector that holds something, nothing, or is not in use.
func TestTorn(t *testing.T) {
	for _, x := range []struct {
		old   string
		used  bool
		b     string
		bytes int
		want  string
	}{
		{"abc", true, "xy", 2, "xy"}, // complete: nothing of the old bytes is left
		{"abc", true, "xy", 3, "xy"},
		{"abc", true, "xy", math.MaxInt, "xy"},
		{"abc", true, "xy", 1, "xbc"},
		{"abc", true, "xy", 0, "abc"},
		{"abc", true, "xy", -1, "abc"},
		{"abc", true, "xy", math.MinInt, "abc"},
		{"abc", true, "vwxyz", 5, "vwxyz"},
		{"abc", true, "vwxyz", 4, "vwxy"},
		{"abc", true, "vwxyz", 3, "vwx"},
		{"abc", true, "vwxyz", 2, "vwc"},
		{"abc", true, "vwxyz", 0, "abc"},
		{"abc", true, "", 0, ""},
		{"abc", true, "", 1, ""},
		{"abc", true, "", -1, "abc"}, // fewer bytes than none have
		{"", true, "xy", 1, "x"},
		{"", true, "xy", 0, ""},
		{"", true, "", -1, ""},
		{"", false, "xy", 2, "xy"},
		{"", false, "xy", 1, "x"},
		{"", false, "xy", 0, ""}, // in use from then on
		{"", false, "xy", -7, ""},
		{"", false, "", 0, ""},
		{"", false, "", -1, ""},
	} {
		d := fresh(t, 2)
		if x.used {
			write(t, d, 1, x.old, 0)
		}
		d.Sync()
		write(t, d, 1, x.b, 0)
		d.Crash([]api.Survivor{{Write: 0, Bytes: x.bytes}})
		holds(t, d, 1, x.want)
		lacks(t, d, 0)
		counts(t, d, 1, 0)
	}
}

// TestTornLong tears writes of a whole sector.
func TestTornLong(t *testing.T) {
	b, old := strings.Repeat("new", 171)[:512], strings.Repeat("before ", 74)[:512]
	for n := -1; n <= 514; n++ {
		d := fresh(t, 2)
		write(t, d, 0, old, 0)
		d.Sync()
		write(t, d, 0, b, 0)
		write(t, d, 1, b, 0)
		d.Crash([]api.Survivor{{Write: 0, Bytes: n}, {Write: 1, Bytes: n}})
		k := min(max(n, 0), 512)
		holds(t, d, 0, b[:k]+old[k:])
		holds(t, d, 1, b[:k])
	}
}

// TestTornTwice tears writes over what earlier survivors left on the ground.
func TestTornTwice(t *testing.T) {
	d := fresh(t, 2)
	write(t, d, 0, "abcdef", 0)
	d.Sync()
	write(t, d, 0, "ABCD", 0)
	write(t, d, 0, "123", 0)
	free(t, d, 0, 0)
	write(t, d, 0, "xyz", 0)
	for _, x := range []struct {
		l    []api.Survivor
		want string
	}{
		{[]api.Survivor{{Write: 0, Bytes: 4}, {Write: 1, Bytes: 1}}, "1BCD"},
		{[]api.Survivor{{Write: 0, Bytes: 3}, {Write: 1, Bytes: 1}}, "1BCdef"},
		{[]api.Survivor{{Write: 1, Bytes: 1}, {Write: 0, Bytes: 3}}, "1BCdef"}, // in the order in which they were issued
		{[]api.Survivor{{Write: 1, Bytes: 2}}, "12cdef"},
		{[]api.Survivor{{Write: 0, Bytes: 4}, {Write: 2}, {Write: 3, Bytes: 1}}, "x"}, // behind a free no old bytes are left
		{[]api.Survivor{{Write: 0, Bytes: 4}, {Write: 3, Bytes: 1}}, "xBCD"},
		{[]api.Survivor{{Write: 2}, {Write: 3}}, ""},
		{[]api.Survivor{{Write: 3, Bytes: 2}, {Write: 2}}, "xy"},
		{[]api.Survivor{{Write: 3}}, "abcdef"},
	} {
		c := d.Copy()
		c.Crash(x.l)
		holds(t, c, 0, x.want)
		counts(t, c, 1, 0)
	}
}

func TestCrashFree(t *testing.T) {
	for _, n := range []int{math.MinInt, -1, 0, 1, 512, math.MaxInt} { // a free is never torn
		d := fresh(t, 3)
		write(t, d, 0, "abc", 0)
		write(t, d, 1, "", 0)
		d.Sync()
		free(t, d, 0, 0)
		free(t, d, 1, 0)
		write(t, d, 2, "x", 0)
		free(t, d, 2, 0)
		d.Crash([]api.Survivor{{Write: 0, Bytes: n}, {Write: 3, Bytes: n}})
		lacks(t, d, 0)
		holds(t, d, 1, "") // its free was lost
		lacks(t, d, 2)     // its free survives alone
		counts(t, d, 1, 0)
	}
}

// TestSurvivors names operations more than once, in any order, and ones that there aren't.
func TestSurvivors(t *testing.T) {
	d := fresh(t, 3)
	write(t, d, 0, "ab", 0)
	write(t, d, 1, "cd", 0)
	write(t, d, 2, "ef", 0)
	for _, x := range []struct {
		l    []api.Survivor
		want string
	}{
		{nil, ""},
		{[]api.Survivor{}, ""},
		{[]api.Survivor{{Write: 1, Bytes: 1}, {Write: 1, Bytes: 2}}, "c"},
		{[]api.Survivor{{Write: 1, Bytes: 2}, {Write: 1, Bytes: 1}, {Write: 1}}, "cd"},
		{[]api.Survivor{{Write: 1}, {Write: 1, Bytes: 9}}, ""},
		{[]api.Survivor{{Write: 2, Bytes: 2}, {Write: 1, Bytes: 1}, {Write: 0, Bytes: 1}, {Write: 2, Bytes: 1}}, "acef"},
		{[]api.Survivor{{Write: -1, Bytes: 9}, {Write: 3, Bytes: 9}, {Write: math.MaxInt, Bytes: 9}, {Write: math.MinInt, Bytes: 9}, {Write: 1 << 32, Bytes: 9}}, ""},
		{[]api.Survivor{{Write: 3, Bytes: 9}, {Write: 0, Bytes: 9}, {Write: 3, Bytes: 1}}, "ab"},
	} {
		c := d.Copy()
		c.Crash(x.l)
		got := ""
		for i := range 3 {
			b, _ := c.Read(i)
			got += string(b)
		}
		if got != x.want || c.Pending() != 0 {
			t.Errorf("Crash(%v) leaves %q; want %q", x.l, got, x.want)
		}
	}
	counts(t, d, 3, 3)
}

// TestCrashAgain holds that indexes begin with 0 after a crash, as after a sync.
func TestCrashAgain(t *testing.T) {
	d := fresh(t, 3)
	write(t, d, 0, "a", 0)
	write(t, d, 1, "b", 0)
	d.Crash([]api.Survivor{{Write: 1, Bytes: 1}})
	counts(t, d, 1, 0)
	d.Crash(all(2)) // what was lost stays lost
	lacks(t, d, 0)
	holds(t, d, 1, "b")
	write(t, d, 2, "c", 0)
	write(t, d, 2, "d", 0)
	d.Crash([]api.Survivor{{Write: 0, Bytes: 1}})
	holds(t, d, 2, "c")
	write(t, d, 2, "e", 0)
	d.Sync()
	write(t, d, 2, "f", 0)
	d.Crash([]api.Survivor{{Write: 0, Bytes: 1}})
	holds(t, d, 2, "f")
	counts(t, d, 2, 0)
}

// TestCrashAll tries all sequences of four actions on two sectors, with all survivors.
func TestCrashAll(t *testing.T) {
	l := []action{writing(0, "ab"), writing(0, "c"), writing(0, ""), writing(1, "xyz"), freeing(0), freeing(1), syncing()}
	sequences(t, 2, 4, l, func(d *Disk, m *model) {
		survivors(len(m.pending), []int{-1, 1, 2}, func(l []api.Survivor) { compareAfter(t, d, m, l) })
	})
}

// TestSequences goes on after crashes and with other limits.
func TestSequences(t *testing.T) {
	l := []action{writing(0, "ab"), writing(1, "c"), writing(2, "x"), freeing(0), syncing(), limiting(1), limiting(9), crashing(), crashing(api.Survivor{Write: 1, Bytes: 1}, api.Survivor{Write: 0, Bytes: 1})}
	sequences(t, 2, 5, l, func(d *Disk, m *model) {})
}

// TestLong does very many actions to one disk.
func TestLong(t *testing.T) {
	r := rand.New(rand.NewSource(6))
	d, m := fresh(t, 12), newModel(12)
	for i := range 100000 {
		n, a := r.Intn(13)-r.Intn(2), syncing()
		switch k := r.Intn(20); {
		case k < 9:
			a = writing(n, strings.Repeat(string(rune('a'+i%26)), r.Intn(5)*r.Intn(140)))
		case k < 14:
			a = freeing(n)
		case k < 15:
			a = limiting(r.Intn(14) - 1)
		case k < 17:
			a = crashing(someSurvivors(r, len(m.pending))...)
		}
		if !a.do(d, m) {
			t.Fatalf("action %d (%s): another error", i, a.name)
		}
		compare(t, d, m, i)
	}
}

func someSurvivors(r *rand.Rand, n int) []api.Survivor {
	var l []api.Survivor
	for range r.Intn(n + 2) {
		l = append(l, api.Survivor{Write: r.Intn(n+2) - 1, Bytes: r.Intn(600) - 10})
	}
	return l
}

// P6.4

// TestSyncedStays crashes a disk in all ways: sectors on which nothing is pending keep what they hold, and a crash that all survives is a sync.
func TestSyncedStays(t *testing.T) {
	l := []action{writing(0, "abc"), writing(1, "x"), writing(1, ""), freeing(0), freeing(1), syncing(), crashing()}
	sequences(t, 3, 4, l, func(d *Disk, m *model) {
		synced := d.Copy()
		synced.Sync()
		crashed := d.Copy()
		crashed.Crash(all(len(m.pending)))
		m = m.copied()
		m.sync()
		compare(t, synced, m, "synced")
		compare(t, crashed, m, "crashed")
		crashed.Crash(nil)
		compare(t, crashed, m, "crashed again")
		write(t, synced, 2, "y", 0)
		free(t, synced, 2, 0)
		survivors(2, []int{-1, 0, 1}, func(l []api.Survivor) {
			c := synced.Copy()
			c.Crash(l)
			for n := range 2 {
				b, e := c.Read(n)
				if s, want := m.read(n); string(b) != s || e != want {
					t.Fatalf("a crash changed sector %d to %q, %d; want %q, %d", n, b, e, s, want)
				}
			}
		})
	})
}

// P1: every call ends without a panic, leaves what it is given alone, and answers new memory.

func TestWriteMemory(t *testing.T) {
	d := fresh(t, 2)
	whole := []byte("abcdef")
	write(t, d, 0, "", 0)
	if e := d.Write(1, whole[:3]); e != api.OK {
		t.Fatal(e)
	}
	d.Crash([]api.Survivor{{Write: 1, Bytes: 2}})
	d.Write(0, whole[:3])
	d.Write(1, whole[:3])
	if string(whole) != "abcdef" {
		t.Fatalf("Write left %q", whole)
	}
	clear(whole)
	holds(t, d, 0, "abc")
	d.Crash([]api.Survivor{{Write: 1, Bytes: 2}, {Write: 0, Bytes: 3}})
	holds(t, d, 1, "ab")
}

func TestReadMemory(t *testing.T) {
	d := fresh(t, 2)
	write(t, d, 0, "abc", 0)
	d.Sync()
	write(t, d, 1, "def", 0)
	c := d.Copy()
	for _, x := range []*Disk{d, c} {
		for range 2 { // a sector of the ground, and one on which a write is pending
			one, _ := x.Read(0)
			two, _ := x.Read(0)
			three, _ := x.Read(1)
			clear(one[:cap(one)])
			clear(three[:cap(three)])
			if string(two) != "abc" {
				t.Fatalf("another answer of Read became %q", two)
			}
		}
	}
	for _, x := range []*Disk{d, c} {
		holds(t, x, 0, "abc")
		holds(t, x, 1, "def")
		x.Crash(all(1))
		holds(t, x, 0, "abc")
		holds(t, x, 1, "def")
	}
}

func TestCrashMemory(t *testing.T) {
	d := fresh(t, 1)
	write(t, d, 0, "abc", 0)
	whole := []api.Survivor{{Write: 2, Bytes: 1}, {Write: 0, Bytes: 1}, {Write: 0, Bytes: 3}, {Write: 0, Bytes: 2}}
	before := slices.Clone(whole)
	d.Crash(whole[:2])
	if !slices.Equal(whole, before) {
		t.Errorf("Crash left %v; want %v", whole, before)
	}
	holds(t, d, 0, "a")
}

// TestFar does what can be done with numbers and bytes that are far off.
func TestFar(t *testing.T) {
	d := fresh(t, 1)
	for _, n := range append([]int{0, 1}, far...) {
		for _, k := range append([]int{0, 1}, far...) {
			for _, b := range [][]byte{nil, {}, []byte("x"), bytes.Repeat([]byte("x"), 512), make([]byte, 513)} {
				d.Limit(k)
				d.Write(n, b)
				d.Read(n)
				d.Free(n)
				d.Write(n, b)
				d.Crash([]api.Survivor{{Write: n, Bytes: k}, {Write: k, Bytes: n}})
				d.Copy().Sync()
			}
		}
	}
	counts(t, d, d.Used(), 0)
}

// TestMany holds that on a great disk that is full a sync, a crash and a count cost little.
func TestMany(t *testing.T) {
	d := fresh(t, api.MaxSectors)
	for i := range api.MaxSectors {
		write(t, d, i, "a", 0)
	}
	counts(t, d, api.MaxSectors, api.MaxSectors)
	d.Sync()
	for i := range 100000 {
		n := i * 7919 % api.MaxSectors
		free(t, d, n, 0)
		write(t, d, n, "b", 0)
		if i%2 == 0 {
			d.Sync()
		} else {
			d.Crash([]api.Survivor{{Write: 0}, {Write: 1}})
		}
		d.Sync()
		d.Crash(nil)
		counts(t, d, api.MaxSectors, 0)
	}
	holds(t, d, 0, "b")
	holds(t, d, 7919%api.MaxSectors, "")
}

// TestManySurvivors crashes a disk with very many pending operations, and as many survivors.
func TestManySurvivors(t *testing.T) {
	d := fresh(t, 2)
	n := 1 << 18
	for i := range n {
		write(t, d, i%2, string([]byte{byte(i >> 16), byte(i >> 8), byte(i)}), 0)
	}
	l := all(n)
	slices.Reverse(l)
	d.Crash(append(l, l...))
	holds(t, d, 0, "\x03\xff\xfe")
	holds(t, d, 1, "\x03\xff\xff")
	counts(t, d, 2, 0)
}

package cache

import (
	"math"
	"math/rand"
	"runtime"
	"slices"
	"strconv"
	"strings"
	"testing"
	"time"

	"lapstone/api"
)

// far are numbers at the edges of what a number may be.
var far = []int{math.MinInt, math.MinInt + 1, -1 << 32, -1 << 31, -1025, -1024, -2, -1, 0, 1, 1023, 1024, 1025, 1 << 16, 1<<31 - 1, 1 << 31, 1<<32 - 1, 1 << 32, 1<<32 + 1, math.MaxInt - 1, math.MaxInt}

// rooms are capacities.
var rooms = []int{1, 2, 3, 4, 5, 7, 8, 9, 15, 16, 17, 63, 64, 100, 1023, 1024}

func clean(id int, b string) api.Entry { return api.Entry{ID: id, Bytes: b} }
func dirty(id int, b string) api.Entry { return api.Entry{ID: id, Bytes: b, Dirty: true} }

// fresh returns an empty cache.
func fresh(t testing.TB, room int) *Cache {
	t.Helper()
	c, e := New(room)
	if c == nil || e != api.OK {
		t.Fatalf("New(%d) = %v, %d", room, c, e)
	}
	return c
}

// made returns a cache with some entries, the first of which is the most recently used one.
func made(t testing.TB, room int, entries ...api.Entry) *Cache {
	t.Helper()
	c := fresh(t, room)
	for _, e := range slices.Backward(entries) {
		put(t, c, e, api.Entry{}, false)
	}
	is(t, c, entries...)
	return c
}

// is checks all that a cache tells without a change.
func is(t testing.TB, c *Cache, entries ...api.Entry) {
	t.Helper()
	if l := c.List(); !slices.Equal(l, entries) {
		t.Fatalf("List() = %.300v; want %.300v", l, entries)
	}
	if n := c.Len(); n != len(entries) {
		t.Fatalf("Len() = %d; want %d", n, len(entries))
	}
}

func put(t testing.TB, c *Cache, e, want api.Entry, evicts bool) {
	t.Helper()
	if got, ok := c.Put(e.ID, e.Bytes, e.Dirty); got != want || ok != evicts {
		t.Fatalf("Put(%.60v) = %.60v, %t; want %.60v, %t", e, got, ok, want, evicts)
	}
}

func get(t testing.TB, c *Cache, id int, want string, err api.Errno) {
	t.Helper()
	if b, e := c.Get(id); b != want || e != err {
		t.Fatalf("Get(%d) = %.60q, %d; want %.60q, %d", id, b, e, want, err)
	}
}

func drop(t testing.TB, c *Cache, want int, ids ...int) {
	t.Helper()
	if n := c.Drop(ids...); n != want {
		t.Fatalf("Drop(%.60v) = %d; want %d", ids, n, want)
	}
}

func written(t testing.TB, c *Cache, want ...api.Entry) {
	t.Helper()
	if l := c.Dirty(); !slices.Equal(l, want) {
		t.Fatalf("Dirty() = %.300v; want %.300v", l, want)
	}
}

// cleaned is entries of which none is dirty.
func cleaned(entries []api.Entry) []api.Entry {
	l := slices.Clone(entries)
	for i := range l {
		l[i].Dirty = false
	}
	return l
}

// P11.1

func TestExample(t *testing.T) {
	c := fresh(t, 2)
	put(t, c, clean(1, "a"), api.Entry{}, false)
	put(t, c, clean(2, "b"), api.Entry{}, false)
	get(t, c, 1, "a", api.OK)
	put(t, c, clean(3, "c"), clean(2, "b"), true)
	is(t, c, clean(3, "c"), clean(1, "a"))
}

func TestNew(t *testing.T) {
	check := func(room int) {
		c, e := New(room)
		if room < 1 || room > 1024 {
			if c != nil || e != api.ErrCacheSize {
				t.Fatalf("New(%d) = %v, %d; want ErrCacheSize", room, c, e)
			}
			return
		}
		if c == nil || e != api.OK {
			t.Fatalf("New(%d) = %v, %d", room, c, e)
		}
		is(t, c)
		written(t, c)
		get(t, c, 0, "", api.ErrCacheNone)
		drop(t, c, 0, 0)
	}
	for room := -10; room <= 1100; room++ {
		check(room)
	}
	for _, room := range far {
		check(room)
	}
}

// TestPut puts an entry where others are: it becomes the first one, whether it is new or stands anywhere.
func TestPut(t *testing.T) {
	a, b, c := clean(1, "a"), clean(2, "b"), clean(3, "c")
	for _, x := range []struct {
		put  api.Entry
		want []api.Entry
	}{
		{clean(4, "d"), []api.Entry{clean(4, "d"), a, b, c}},
		{dirty(0, ""), []api.Entry{dirty(0, ""), a, b, c}},
		{clean(1, "x"), []api.Entry{clean(1, "x"), b, c}},
		{clean(2, "x"), []api.Entry{clean(2, "x"), a, c}},
		{clean(3, "x"), []api.Entry{clean(3, "x"), a, b}},
		{dirty(3, "c"), []api.Entry{dirty(3, "c"), a, b}},
		{clean(3, ""), []api.Entry{clean(3, ""), a, b}},
	} {
		s := made(t, 4, a, b, c)
		put(t, s, x.put, api.Entry{}, false)
		is(t, s, x.want...)
		get(t, s, x.put.ID, x.put.Bytes, api.OK)
		is(t, s, x.want...)
	}
}

// TestPutDirty holds that an entry becomes dirty, and stays it until Dirty has returned it.
func TestPutDirty(t *testing.T) {
	for _, before := range []bool{false, true} {
		for _, now := range []bool{false, true} {
			c := fresh(t, 1)
			put(t, c, api.Entry{ID: 5, Bytes: "a", Dirty: before}, api.Entry{}, false)
			put(t, c, api.Entry{ID: 5, Bytes: "b", Dirty: now}, api.Entry{}, false)
			is(t, c, api.Entry{ID: 5, Bytes: "b", Dirty: before || now})
			get(t, c, 5, "b", api.OK)
			is(t, c, api.Entry{ID: 5, Bytes: "b", Dirty: before || now})
			c.Dirty()
			is(t, c, clean(5, "b"))
			put(t, c, api.Entry{ID: 5, Bytes: "c", Dirty: now}, api.Entry{}, false)
			is(t, c, api.Entry{ID: 5, Bytes: "c", Dirty: now})
		}
	}
}

// TestNotDirty holds that an entry that is created is dirty only if it is put so, whatever one of its ID was that is gone.
func TestNotDirty(t *testing.T) {
	c := made(t, 2, dirty(1, "a"))
	drop(t, c, 1, 1)
	put(t, c, clean(1, "b"), api.Entry{}, false)
	is(t, c, clean(1, "b"))
	c = made(t, 1, dirty(1, "a"))
	put(t, c, clean(2, "b"), dirty(1, "a"), true)
	put(t, c, clean(1, "c"), clean(2, "b"), true)
	is(t, c, clean(1, "c"))
}

// TestEvict fills caches, and goes on: the entries leave in the order in which they came, as they are.
func TestEvict(t *testing.T) {
	for _, room := range rooms {
		c := fresh(t, room)
		entry := func(i int) api.Entry { return api.Entry{ID: i * 7, Bytes: strconv.Itoa(i), Dirty: i%3 == 0} }
		for i := range room {
			if c.Len() != i {
				t.Fatalf("Len() = %d; want %d", c.Len(), i)
			}
			put(t, c, entry(i), api.Entry{}, false)
		}
		for i := range 2*room + 3 {
			put(t, c, entry(room+i), entry(i), true)
			get(t, c, entry(i).ID, "", api.ErrCacheNone)
			if c.Len() != room {
				t.Fatalf("Len() = %d; want %d", c.Len(), room)
			}
		}
	}
}

// TestEvictNone puts entries that are present into full caches: none is evicted.
func TestEvictNone(t *testing.T) {
	for _, room := range rooms {
		var l []api.Entry
		for i := range room {
			l = append(l, clean(i, "a"))
		}
		c := made(t, room, l...)
		for i := range room {
			put(t, c, dirty(i, "b"), api.Entry{}, false)
		}
		for i := range room {
			l[room-1-i] = dirty(i, "b")
		}
		is(t, c, l...)
	}
}

// TestEvictZero evicts an entry that is all zero: only the flag tells it from none.
func TestEvictZero(t *testing.T) {
	c := fresh(t, 1)
	put(t, c, api.Entry{}, api.Entry{}, false)
	put(t, c, api.Entry{}, api.Entry{}, false)
	put(t, c, clean(1, "a"), api.Entry{}, true)
	put(t, c, api.Entry{}, clean(1, "a"), true)
	is(t, c, api.Entry{})
}

func TestGet(t *testing.T) {
	a, b, c := clean(1, "a"), dirty(2, ""), clean(3, "c")
	for _, x := range []struct {
		id    int
		bytes string
		err   api.Errno
		want  []api.Entry
	}{
		{1, "a", api.OK, []api.Entry{a, b, c}},
		{2, "", api.OK, []api.Entry{b, a, c}},
		{3, "c", api.OK, []api.Entry{c, a, b}},
		{0, "", api.ErrCacheNone, []api.Entry{a, b, c}},
		{4, "", api.ErrCacheNone, []api.Entry{a, b, c}},
		{-1, "", api.ErrCacheNone, []api.Entry{a, b, c}},
	} {
		s := made(t, 3, a, b, c)
		get(t, s, x.id, x.bytes, x.err)
		is(t, s, x.want...)
		get(t, s, x.id, x.bytes, x.err)
		is(t, s, x.want...)
		last := x.want[2]
		put(t, s, clean(9, "z"), last, true)
		is(t, s, clean(9, "z"), x.want[0], x.want[1])
	}
}

func TestDrop(t *testing.T) {
	a, b, c := clean(1, "a"), dirty(2, "b"), clean(3, "c")
	for _, x := range []struct {
		ids  []int
		n    int
		want []api.Entry
	}{
		{nil, 0, []api.Entry{a, b, c}},
		{[]int{}, 0, []api.Entry{a, b, c}},
		{[]int{0}, 0, []api.Entry{a, b, c}},
		{[]int{0, 4, -1, math.MinInt, math.MaxInt}, 0, []api.Entry{a, b, c}},
		{[]int{1}, 1, []api.Entry{b, c}},
		{[]int{2}, 1, []api.Entry{a, c}},
		{[]int{3}, 1, []api.Entry{a, b}},
		{[]int{3, 3}, 1, []api.Entry{a, b}},
		{[]int{2, 0, 2, 2}, 1, []api.Entry{a, c}},
		{[]int{0, 1, 4, 3}, 2, []api.Entry{b}},
		{[]int{3, 1}, 2, []api.Entry{b}},
		{[]int{2, 1, 2, 1}, 2, []api.Entry{c}},
		{[]int{2, 3, 1}, 3, nil},
		{[]int{1, 2, 3, 1, 2, 3}, 3, nil},
	} {
		s := made(t, 3, a, b, c)
		drop(t, s, x.n, x.ids...)
		is(t, s, x.want...)
		drop(t, s, 0, x.ids...)
		is(t, s, x.want...)
		for _, id := range x.ids {
			get(t, s, id, "", api.ErrCacheNone)
		}
		for i := range x.n { // there is room again for as many as went
			put(t, s, clean(10+i, ""), api.Entry{}, false)
		}
		if s.Len() != 3 {
			t.Fatalf("Drop(%v): Len() = %d", x.ids, s.Len())
		}
	}
}

// TestDropAll empties caches, and fills them again.
func TestDropAll(t *testing.T) {
	for _, room := range rooms {
		c := fresh(t, room)
		for range 3 {
			var ids []int
			for i := range room {
				put(t, c, dirty(i, "a"), api.Entry{}, false)
				ids = append(ids, i, room+i, i)
			}
			drop(t, c, room, ids...)
			is(t, c)
			written(t, c)
		}
	}
}

// P11.2

func TestDirty(t *testing.T) {
	entries := []api.Entry{dirty(3, "a"), clean(9, "b"), dirty(-7, "c"), clean(0, ""), dirty(100, ""), dirty(4, "d"), dirty(math.MinInt, "e"), dirty(math.MaxInt, "f"), clean(-1, "g")}
	c := made(t, 10, entries...)
	written(t, c, dirty(math.MinInt, "e"), dirty(-7, "c"), dirty(3, "a"), dirty(4, "d"), dirty(100, ""), dirty(math.MaxInt, "f"))
	is(t, c, cleaned(entries)...)
	written(t, c)
	is(t, c, cleaned(entries)...)
	put(t, c, dirty(4, "x"), api.Entry{}, false)
	put(t, c, clean(3, "y"), api.Entry{}, false)
	put(t, c, dirty(1, "z"), api.Entry{}, false)
	written(t, c, dirty(1, "z"), dirty(4, "x"))
	written(t, c)
}

// TestDirtyOrder marks each set of entries, in each order of use: they come by ascending ID, and the list stays in its order.
func TestDirtyOrder(t *testing.T) {
	ids := []int{-2, -1, 0, 1, 2}
	for _, order := range orders(ids) {
		for set := range 1 << len(order) {
			c := fresh(t, len(order))
			var list, want []api.Entry
			for i, id := range order {
				e := api.Entry{ID: id, Bytes: strconv.Itoa(i), Dirty: set>>i&1 == 1}
				put(t, c, e, api.Entry{}, false)
				list = slices.Insert(list, 0, e)
				if e.Dirty {
					want = append(want, e)
				}
			}
			slices.SortFunc(want, func(a, b api.Entry) int { return a.ID - b.ID })
			is(t, c, list...)
			written(t, c, want...)
			is(t, c, cleaned(list)...)
			put(t, c, clean(9, ""), clean(order[0], "0"), true) // the order of use is as it was
		}
	}
}

// orders is all orders of some numbers.
func orders(l []int) [][]int {
	if len(l) == 0 {
		return [][]int{nil}
	}
	var out [][]int
	for i, n := range l {
		for _, rest := range orders(slices.Delete(slices.Clone(l), i, i+1)) {
			out = append(out, append([]int{n}, rest...))
		}
	}
	return out
}

// TestDirtyGone holds that an entry that was evicted or dropped is no longer returned.
func TestDirtyGone(t *testing.T) {
	c := made(t, 3, dirty(3, "c"), dirty(2, "b"), dirty(1, "a"))
	put(t, c, dirty(4, "d"), dirty(1, "a"), true)
	drop(t, c, 1, 3)
	written(t, c, dirty(2, "b"), dirty(4, "d"))
	put(t, c, clean(5, "e"), api.Entry{}, false)
	put(t, c, clean(6, "f"), clean(2, "b"), true)
}

// TestStill holds that what tells of a cache changes no order: the entry that was used least is the same.
func TestStill(t *testing.T) {
	for range 3 {
		c := made(t, 3, dirty(1, "a"), clean(2, "b"), dirty(3, "c"))
		for range 5 {
			c.List()
			c.Len()
		}
		is(t, c, dirty(1, "a"), clean(2, "b"), dirty(3, "c"))
		c.Dirty()
		c.Dirty()
		put(t, c, clean(4, "d"), clean(3, "c"), true)
		put(t, c, clean(5, "e"), clean(2, "b"), true)
		put(t, c, clean(6, "f"), clean(1, "a"), true)
	}
}

// A model is what a cache is by its words: a capacity and a list.
type model struct {
	room int
	list []api.Entry
}

func (m *model) index(id int) int {
	return slices.IndexFunc(m.list, func(e api.Entry) bool { return e.ID == id })
}

// without takes out the entry with an ID.
func (m *model) without(id int) (api.Entry, bool) {
	i := m.index(id)
	if i < 0 {
		return api.Entry{}, false
	}
	e := m.list[i]
	m.list = slices.Delete(m.list, i, i+1)
	return e, true
}

func (m *model) put(id int, b string, dirty bool) (api.Entry, bool) {
	old, _ := m.without(id)
	m.list = slices.Insert(m.list, 0, api.Entry{ID: id, Bytes: b, Dirty: dirty || old.Dirty})
	if len(m.list) <= m.room {
		return api.Entry{}, false
	}
	return m.without(m.list[m.room].ID)
}

func (m *model) get(id int) (string, api.Errno) {
	e, ok := m.without(id)
	if !ok {
		return "", api.ErrCacheNone
	}
	m.list = slices.Insert(m.list, 0, e)
	return e.Bytes, api.OK
}

func (m *model) drop(ids []int) int {
	n := 0
	for _, id := range ids {
		if _, ok := m.without(id); ok {
			n++
		}
	}
	return n
}

func (m *model) written() []api.Entry {
	l := slices.DeleteFunc(slices.Clone(m.list), func(e api.Entry) bool { return !e.Dirty })
	slices.SortFunc(l, func(a, b api.Entry) int {
		if a.ID < b.ID {
			return -1
		}
		return 1
	})
	m.list = cleaned(m.list)
	return l
}

// step does an action, of those that actions numbers, to a cache and to its model, and holds their results against each other.
func step(t testing.TB, c *Cache, m *model, action int, b string) {
	t.Helper()
	if action == 0 {
		written(t, c, m.written()...)
		return
	}
	id := (action - 1) / 4
	switch (action - 1) % 4 {
	case 0, 1:
		e := api.Entry{ID: id, Bytes: b, Dirty: action%2 == 0}
		want, evicts := m.put(e.ID, e.Bytes, e.Dirty)
		put(t, c, e, want, evicts)
	case 2:
		want, err := m.get(id)
		get(t, c, id, want, err)
	case 3:
		drop(t, c, m.drop([]int{id}), id)
	}
}

// actions is how many actions step knows for so many IDs.
func actions(ids int) int { return 1 + 4*ids }

// TestSequences does all sequences of some actions to small caches.
func TestSequences(t *testing.T) {
	for _, x := range []struct{ room, ids, steps int }{{1, 2, 5}, {2, 2, 5}, {2, 3, 4}, {3, 4, 4}} {
		all := 1
		for range x.steps {
			all *= actions(x.ids)
		}
		for n := range all {
			c, m := fresh(t, x.room), &model{room: x.room}
			for i := range x.steps {
				step(t, c, m, n%actions(x.ids), "abcde"[i:i+1])
				is(t, c, m.list...)
				n /= actions(x.ids)
			}
		}
	}
}

// TestFull does all sequences of some actions to full caches, whose entries are of both kinds.
func TestFull(t *testing.T) {
	start := []api.Entry{dirty(2, "z"), clean(0, "y"), dirty(1, "x")}
	const steps, ids = 3, 5
	for n := range actions(ids) * actions(ids) * actions(ids) {
		c, m := made(t, 3, start...), &model{room: 3, list: slices.Clone(start)}
		for i := range steps {
			step(t, c, m, n%actions(ids), "abc"[i:i+1])
			is(t, c, m.list...)
			n /= actions(ids)
		}
	}
}

func TestLong(t *testing.T) {
	r := rand.New(rand.NewSource(11))
	for _, room := range rooms {
		c, m := fresh(t, room), &model{room: room}
		ids := room + 1 + room/3
		for i := range 6000 {
			switch a := r.Intn(actions(ids)); {
			case i%97 == 0:
				l := r.Perm(ids)[:r.Intn(1+room/2)]
				l = append(l, l...)
				drop(t, c, m.drop(l), l...)
			case (a-1)%4 == 3 && r.Intn(4) > 0: // few are dropped, so that caches are full
			default:
				step(t, c, m, a, strconv.Itoa(i))
			}
			if i%50 == 0 || room < 10 {
				is(t, c, m.list...)
			}
		}
		is(t, c, m.list...)
		written(t, c, m.written()...)
	}
}

// P11.3

// TestLeast keeps when each entry was used, and what was put last: the evicted entry was not used for the longest time.
func TestLeast(t *testing.T) {
	r := rand.New(rand.NewSource(12))
	for _, room := range rooms {
		c := fresh(t, room)
		used, bytes := map[int]int{}, map[int]string{}
		for now := range 20000 {
			id := r.Intn(2*room + 1)
			if r.Intn(2) == 0 {
				_, present := used[id]
				b, e := c.Get(id)
				if present != (e == api.OK) || b != bytes[id] {
					t.Fatalf("Get(%d) = %q, %d; want %q, %t", id, b, e, bytes[id], present)
				}
				if present {
					used[id] = now
				}
				continue
			}
			bytes[id], used[id] = strconv.Itoa(now), now
			gone, evicts := c.Put(id, bytes[id], false)
			if evicts != (len(used) > room) {
				t.Fatalf("room %d: Put evicts %t with %d entries", room, evicts, len(used))
			}
			if evicts {
				for other, at := range used {
					if at < used[gone.ID] {
						t.Fatalf("%d was evicted, used at %d; but %d was used at %d", gone.ID, used[gone.ID], other, at)
					}
				}
				delete(used, gone.ID)
				delete(bytes, gone.ID)
			}
			if c.Len() > room || c.Len() != len(used) {
				t.Fatalf("room %d: Len() = %d; want %d", room, c.Len(), len(used))
			}
		}
	}
}

// P1: every call ends without a panic, leaves what it is given alone, and answers new memory.

// TestFar uses IDs at the edges of numbers: each is an entry of its own.
func TestFar(t *testing.T) {
	c := fresh(t, len(far))
	for i, id := range far {
		get(t, c, id, "", api.ErrCacheNone)
		drop(t, c, 0, id)
		put(t, c, dirty(id, strconv.Itoa(i)), api.Entry{}, false)
	}
	for i, id := range far {
		get(t, c, id, strconv.Itoa(i), api.OK)
	}
	for i, e := range c.Dirty() { // far ascends
		if e != dirty(far[i], strconv.Itoa(i)) {
			t.Fatalf("Dirty()[%d] = %v", i, e)
		}
	}
	for i, id := range far {
		put(t, c, clean(5000+i, ""), clean(id, strconv.Itoa(i)), true)
		drop(t, c, 0, id)
	}
}

// TestBytes puts all kinds of bytes.
func TestBytes(t *testing.T) {
	var all []byte
	for b := range 256 {
		all = append(all, byte(b))
	}
	for _, b := range []string{"", "\x00", "\xff\xfe", "\xc3", string(all), strings.Repeat("\x00", 1<<20)} {
		c := fresh(t, 1)
		put(t, c, clean(0, b), api.Entry{}, false)
		get(t, c, 0, b, api.OK)
		is(t, c, clean(0, b))
		put(t, c, dirty(0, b), api.Entry{}, false)
		written(t, c, dirty(0, b))
		put(t, c, clean(1, ""), clean(0, b), true)
	}
}

func TestMemory(t *testing.T) {
	whole := []int{2, 3, 1, 7}
	c := made(t, 5, clean(1, "a"), dirty(2, "b"), clean(3, "c"), dirty(4, "d"))
	drop(t, c, 2, whole[:2]...)
	if !slices.Equal(whole, []int{2, 3, 1, 7}) {
		t.Errorf("what was given was changed to %v", whole)
	}
	for i := range whole {
		whole[i] = 4
	}
	is(t, c, clean(1, "a"), dirty(4, "d"))
}

func TestNewMemory(t *testing.T) {
	c := made(t, 5, dirty(1, "a"), clean(2, "b"), dirty(3, "c"))
	spoil := func(l []api.Entry) {
		for i := range l[:cap(l)] {
			l[:cap(l)][i] = dirty(77, "x")
		}
	}
	l, again := c.List(), c.List()
	spoil(l)
	is(t, c, again...)
	d := c.Dirty()
	if !slices.Equal(d, []api.Entry{dirty(1, "a"), dirty(3, "c")}) || !slices.Equal(again, []api.Entry{dirty(1, "a"), clean(2, "b"), dirty(3, "c")}) {
		t.Fatalf("answers change: %v, %v", d, again)
	}
	put(t, c, dirty(2, "z"), api.Entry{}, false)
	other := c.Dirty()
	spoil(other)
	if !slices.Equal(d, []api.Entry{dirty(1, "a"), dirty(3, "c")}) {
		t.Fatalf("answers share memory: %v", d)
	}
	spoil(d)
	is(t, c, clean(2, "z"), clean(1, "a"), clean(3, "c"))
	gone, _ := c.Put(4, "d", false)
	put(t, c, clean(5, "e"), api.Entry{}, false)
	if gone != (api.Entry{}) {
		t.Fatalf("Put returned %v", gone)
	}
	is(t, c, clean(5, "e"), clean(4, "d"), clean(2, "z"), clean(1, "a"), clean(3, "c"))
}

// TestApart holds that caches have nothing in common.
func TestApart(t *testing.T) {
	c, d := fresh(t, 2), fresh(t, 3)
	put(t, c, dirty(1, "a"), api.Entry{}, false)
	put(t, d, clean(1, "b"), api.Entry{}, false)
	put(t, d, clean(2, "c"), api.Entry{}, false)
	put(t, d, clean(3, "d"), api.Entry{}, false)
	is(t, c, dirty(1, "a"))
	drop(t, c, 1, 1, 2)
	is(t, d, clean(3, "d"), clean(2, "c"), clean(1, "b"))
	is(t, c)
	is(t, fresh(t, 2))
}

// TestKept holds that a cache keeps no bytes of entries that are gone, and none that were replaced.
func TestKept(t *testing.T) {
	c := fresh(t, 4)
	for i := range 600 {
		c.Put(i, strings.Repeat("a", 1<<20), i%2 == 0)
		c.Put(i, strings.Repeat("b", 1<<20), false)
		c.Put(-1, strings.Repeat("c", 1<<20), true)
		if i%3 == 0 {
			c.Drop(i)
		}
	}
	runtime.GC()
	var m runtime.MemStats
	runtime.ReadMemStats(&m)
	if m.HeapAlloc > 100<<20 {
		t.Errorf("%d bytes are kept", m.HeapAlloc)
	}
	if c.Len() != 4 {
		t.Errorf("Len() = %d", c.Len())
	}
}

// TestMany holds that calls cost the same in a great cache as in a small one, but those that go through all of its entries.
func TestMany(t *testing.T) {
	start := time.Now()
	c := fresh(t, 1024)
	for i := range 3000000 {
		c.Put(i, "a", true)
		if b, e := c.Get(i - i%1000); i > 1000 && (b != "a" || e != api.OK) {
			t.Fatalf("Get(%d) = %q, %d", i-i%1000, b, e)
		}
	}
	for range 3000 {
		if n := len(c.List()); n != 1024 {
			t.Fatalf("%d entries", n)
		}
		c.Dirty()
	}
	ids := make([]int, 1<<22)
	for i := range ids {
		ids[i] = i
	}
	if n := c.Drop(ids...); n != 1024 || c.Len() != 0 {
		t.Errorf("Drop = %d, Len() = %d", n, c.Len())
	}
	if d := time.Since(start); d > 20*time.Second {
		t.Errorf("it took %s", d)
	}
}

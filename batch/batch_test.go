package batch

import (
	"bytes"
	"encoding/binary"
	"math"
	"slices"
	"strings"
	"testing"

	"lapstone/api"
)

// numbers are those at which a varint could change.
var numbers = []uint64{0, 1, 127, 128, 300, api.MaxTime - 1, api.MaxTime, 1 << 63, math.MaxUint64}

func of(w ...api.Write) api.Batch   { return api.Batch{Client: 1, Request: 2, Start: 3, Writes: w} }
func put(key, v string) api.Write   { return api.Write{Key: key, Value: v} }
func gone(key string) api.Write     { return api.Write{Key: key, Gone: true} }
func long(s string, n int) string   { return strings.Repeat(s, n)[:n] }
func deep(b api.Batch) api.Batch    { b.Writes = append([]api.Write(nil), b.Writes...); return b }
func isZero(b api.Batch) bool       { return b.Client|b.Request|b.Start == 0 && b.Writes == nil }
func equal(a, b api.Batch) bool     { return plainly(a) == plainly(b) && slices.Equal(a.Writes, b.Writes) }
func plainly(b api.Batch) [3]uint64 { return [3]uint64{b.Client, b.Request, b.Start} }

// sample is a write, and why no batch may have it, if so.
type sample struct {
	write api.Write
	err   api.Errno
}

// samples are writes that may be, by rising keys, and then ones that may not be.
func samples() []sample {
	return []sample{
		{put("\x00", ""), 0},
		{put("a", "x"), 0},
		{gone("a\x00"), 0},
		{put("b", ""), 0},
		{put(long("b", 63), "y"), 0},
		{gone(long("b", 64)), 0},
		{put(long("é", 64), long("v", 256)), 0}, // bytes are counted, not runes
		{put("\xff", long("\x00", 255)), 0},
		{put("", ""), api.ErrBatchKey},
		{gone(""), api.ErrBatchKey},
		{put("", long("v", 257)), api.ErrBatchKey}, // of two faults of a write the key's comes first
		{put(long("c", 65), "x"), api.ErrBatchKey},
		{put(long("é", 66), "x"), api.ErrBatchKey}, // 33 runes
		{api.Write{Key: long("c", 1<<16+1), Value: long("v", 257), Gone: true}, api.ErrBatchKey},
		{put("a", long("v", 257)), api.ErrBatchValue},
		{put("b", long("v", 1<<16+1)), api.ErrBatchValue},
		{put("b", long("é", 258)), api.ErrBatchValue},
		{api.Write{Key: "b", Value: "x", Gone: true}, api.ErrBatchValue},
		{api.Write{Key: "c", Value: "\x00", Gone: true}, api.ErrBatchValue},
		{api.Write{Key: "c", Value: long("v", 257), Gone: true}, api.ErrBatchValue},
	}
}

// why is what Check answers to samples, worked out plainly.
func why(l []sample) api.Errno {
	for i, x := range l {
		switch {
		case x.err != api.OK:
			return x.err
		case i > 0 && l[i-1].write.Key >= x.write.Key:
			return api.ErrBatchOrder
		}
	}
	return api.OK
}

// lists calls f with all lists of one to n of some elements.
func lists[T any](n int, all []T, f func(l []T)) {
	var more func(l []T)
	more = func(l []T) {
		if len(l) > 0 {
			f(l)
		}
		if len(l) == n {
			return
		}
		for _, x := range all {
			more(append(slices.Clip(l), x))
		}
	}
	more(nil)
}

// encoded is the encoding, worked out plainly, of batches that are not valid, too.
func encoded(b api.Batch) string {
	var s []byte
	for _, v := range []uint64{b.Client, b.Request, b.Start, uint64(len(b.Writes))} {
		s = binary.AppendUvarint(s, v)
	}
	for _, w := range b.Writes {
		s = append(binary.AppendUvarint(s, uint64(len(w.Key))), w.Key...)
		if w.Gone {
			s = append(s, 1)
		} else {
			s = append(binary.AppendUvarint(append(s, 0), uint64(len(w.Value))), w.Value...)
		}
	}
	return string(s)
}

// decoded is the batch whose encoding is s, worked out plainly, and whether there is one: what is read loosely is held against s.
func decoded(s string) (api.Batch, bool) {
	rest, ok := []byte(s), true
	number := func() uint64 {
		v, n := binary.Uvarint(rest)
		ok = ok && n > 0
		rest = rest[max(n, 0):]
		return v
	}
	text := func(n uint64) string {
		if n > uint64(len(rest)) {
			ok = false
			return ""
		}
		x := string(rest[:n])
		rest = rest[n:]
		return x
	}
	b := api.Batch{Client: number(), Request: number(), Start: number()}
	for n := number(); ok && n > 0; n-- {
		w := api.Write{Key: text(number()), Gone: text(1) == "\x01"}
		if !w.Gone {
			w.Value = text(number())
		}
		b.Writes = append(b.Writes, w)
	}
	if !ok || len(rest) > 0 || Check(b) != api.OK || encoded(b) != s {
		return api.Batch{}, false
	}
	return b, true
}

// checkGet holds Get of s against the plain way.
func checkGet(t *testing.T, s string) {
	t.Helper()
	want, ok := decoded(s)
	b, e := Get([]byte(s))
	if ok && (!equal(b, want) || e != api.OK) {
		t.Fatalf("Get(%.90q) = %v, %d; want %v", s, b, e, want)
	}
	if !ok && (!isZero(b) || e != api.ErrBatchForm) {
		t.Fatalf("Get(%.90q) = %v, %d; want ErrBatchForm", s, b, e)
	}
}

// checkPut holds Put of a batch that has no error, and Get of what it answers.
func checkPut(t *testing.T, b api.Batch, want string) {
	t.Helper()
	if s, e := Put(b); string(s) != want || e != api.OK {
		t.Fatalf("Put(%v) = %q, %d; want %q", b, s, e, want)
	}
	if got, e := Get([]byte(want)); !equal(got, b) || e != api.OK {
		t.Fatalf("Get(%q) = %v, %d; want %v", want, got, e, b)
	}
}

// many returns n writes by rising keys.
func many(n int) []api.Write {
	l := make([]api.Write, n)
	for i := range l {
		l[i] = put(string([]byte{byte(i >> 16), byte(i >> 8), byte(i)}), "v")
	}
	return l
}

// P5.1

func TestCheckNumber(t *testing.T) {
	bad := api.Write{Value: long("v", 257), Gone: true}
	for _, x := range []struct {
		writes []api.Write
		want   api.Errno
	}{
		{nil, api.ErrBatchEmpty},
		{[]api.Write{}, api.ErrBatchEmpty},
		{many(9)[:0], api.ErrBatchEmpty},
		{many(1), api.OK},
		{many(7), api.OK},
		{many(8), api.OK},
		{many(9), api.ErrBatchMany},
		{many(300), api.ErrBatchMany},
		{many(1 << 16), api.ErrBatchMany},
		{append([]api.Write{bad}, many(8)...), api.ErrBatchMany}, // the number comes first
		{make([]api.Write, 9), api.ErrBatchMany},
		{make([]api.Write, 8), api.ErrBatchKey},
		{append(many(7), bad), api.ErrBatchKey}, // the last write is checked, too
		{append(many(7), many(1)...), api.ErrBatchOrder},
		{append(many(7), put("x", long("v", 257))), api.ErrBatchValue},
	} {
		if e := Check(of(x.writes...)); e != x.want {
			t.Errorf("Check of %d writes = %d; want %d", len(x.writes), e, x.want)
		}
	}
}

// TestCheckAll tries all lists of up to three writes, ones that may be and ones that may not.
func TestCheckAll(t *testing.T) {
	lists(3, samples(), func(l []sample) {
		b := of()
		for _, x := range l {
			b.Writes = append(b.Writes, x.write)
		}
		want := why(l)
		if e := Check(b); e != want {
			t.Fatalf("Check(%.300v) = %d; want %d", b, e, want)
		}
		if s, e := Put(b); e != want || want != api.OK && s != nil || want == api.OK && string(s) != encoded(b) {
			t.Fatalf("Put(%.300v) = %.90q, %d; want %d", b, s, e, want)
		}
	})
}

func TestCheckOrder(t *testing.T) {
	for _, x := range []struct {
		first, second string
		want          api.Errno
	}{
		{"a", "b", api.OK},
		{"b", "a", api.ErrBatchOrder},
		{"a", "a", api.ErrBatchOrder},
		{"a", "aa", api.OK},
		{"aa", "a", api.ErrBatchOrder},
		{"a", "a\x00", api.OK},
		{"aa", "b", api.OK},
		{"\x7f", "\x80", api.OK}, // bytes have no sign
		{"\x80", "\x7f", api.ErrBatchOrder},
		{"B", "a", api.OK},
		{"\xff", "é", api.ErrBatchOrder},
		{long("a", 63) + "b", long("a", 64), api.ErrBatchOrder},
		{long("a", 64), long("a", 63) + "b", api.OK},
	} {
		for _, b := range []api.Batch{of(put(x.first, ""), put(x.second, "")), of(gone(x.first), put(x.second, "x")), of(put(x.first, "y"), gone(x.second))} {
			if e := Check(b); e != x.want {
				t.Errorf("Check(%v) = %d; want %d", b, e, x.want)
			}
		}
	}
	for i := range 7 { // just one pair of neighbours in the wrong order
		l := many(8)
		l[i], l[i+1] = l[i+1], l[i]
		if e := Check(of(l...)); e != api.ErrBatchOrder {
			t.Errorf("Check with %d and %d exchanged = %d", i, i+1, e)
		}
	}
}

func TestCheckNumbers(t *testing.T) {
	for _, n := range numbers { // no number of a client, a request or a timestamp makes a batch wrong
		for _, b := range []api.Batch{{Client: n}, {Request: n}, {Start: n}, {Client: n, Request: n, Start: n}} {
			if e := Check(b); e != api.ErrBatchEmpty {
				t.Errorf("Check(%v) = %d", b, e)
			}
			b.Writes = many(3)
			if e := Check(b); e != api.OK {
				t.Errorf("Check(%v) = %d", b, e)
			}
		}
	}
}

// checkSorted holds Sorted against a plain insertion: each write is put behind all those that have no greater key.
func checkSorted(t *testing.T, b api.Batch) {
	t.Helper()
	want := api.Batch{Client: b.Client, Request: b.Request, Start: b.Start}
	for _, w := range b.Writes {
		i := len(want.Writes)
		for i > 0 && want.Writes[i-1].Key > w.Key {
			i--
		}
		want.Writes = slices.Insert(want.Writes, i, w)
	}
	before := deep(b)
	if got := Sorted(b); !equal(got, want) {
		t.Fatalf("Sorted(%v) = %v; want %v", b, got, want)
	}
	if !equal(b, before) {
		t.Fatalf("Sorted changed %v to %v", before, b)
	}
}

func TestSorted(t *testing.T) {
	l := []api.Write{put("a", "1"), gone("a"), put("b", "2"), put("", "3"), put("a\x00", ""), put("\xff", "4"), put(long("b", 65), long("v", 257))}
	lists(5, l, func(l []api.Write) { checkSorted(t, of(l...)) })
	for _, n := range numbers {
		checkSorted(t, api.Batch{Client: n, Request: n - 1, Start: n + 1, Writes: []api.Write{gone("b"), put("a", "x")}})
		checkSorted(t, api.Batch{Client: n, Request: n - 1, Start: n + 1})
	}
	checkSorted(t, of([]api.Write{}...))
}

// TestSortedMany sorts more writes than a valid batch has: those of the same key keep their order.
func TestSortedMany(t *testing.T) {
	for _, n := range []int{8, 9, 12, 13, 20, 21, 50, 51, 1000, 1 << 16} {
		b := of()
		for i := range n {
			b.Writes = append(b.Writes, put(string([]byte{byte(i * 7 % 5)}), string([]byte{byte(i >> 16), byte(i >> 8), byte(i)})))
		}
		got := Sorted(b).Writes
		if len(got) != n {
			t.Fatalf("%d writes sorted are %d", n, len(got))
		}
		for i := 1; i < n; i++ {
			if x, y := got[i-1], got[i]; x.Key > y.Key || x.Key == y.Key && x.Value >= y.Value {
				t.Fatalf("of %d writes %v is in front of %v", n, x, y)
			}
		}
	}
}

// P5.2

func TestPut(t *testing.T) {
	checkPut(t, of(put("a", "x"), gone("b")), "\x01\x02\x03\x02\x01a\x00\x01x\x01b\x01")
	checkPut(t, of(put("a", "")), "\x01\x02\x03\x01\x01a\x00\x00")
	checkPut(t, of(gone("a")), "\x01\x02\x03\x01\x01a\x01")
	checkPut(t, of(put("\x00", "\x00\xff")), "\x01\x02\x03\x01\x01\x00\x00\x02\x00\xff")
	checkPut(t, of(gone("a"), put("b", "\x01")), "\x01\x02\x03\x02\x01a\x01\x01b\x00\x01\x01")
	checkPut(t, api.Batch{Writes: []api.Write{gone("é")}}, "\x00\x00\x00\x01\x02\xc3\xa9\x01")
	checkPut(t, api.Batch{Client: 300, Request: 127, Start: 128, Writes: []api.Write{gone("a")}}, "\xac\x02\x7f\x80\x01\x01\x01a\x01")
	checkPut(t, api.Batch{Client: math.MaxUint64, Request: 0, Start: 1 << 63, Writes: []api.Write{gone("a")}}, "\xff\xff\xff\xff\xff\xff\xff\xff\xff\x01\x00\x80\x80\x80\x80\x80\x80\x80\x80\x80\x01\x01\x01a\x01")
	checkPut(t, of(put(long("k", 64), long("v", 127))), "\x01\x02\x03\x01\x40"+long("k", 64)+"\x00\x7f"+long("v", 127))
	checkPut(t, of(put(long("k", 64), long("v", 128))), "\x01\x02\x03\x01\x40"+long("k", 64)+"\x00\x80\x01"+long("v", 128))
	checkPut(t, of(put(long("k", 64), long("v", 256))), "\x01\x02\x03\x01\x40"+long("k", 64)+"\x00\x80\x02"+long("v", 256))
	checkPut(t, of(gone("1"), gone("2"), gone("3"), gone("4"), gone("5"), gone("6"), gone("7"), gone("8")), "\x01\x02\x03\x08\x011\x01\x012\x01\x013\x01\x014\x01\x015\x01\x016\x01\x017\x01\x018\x01")
}

func TestPutNumbers(t *testing.T) {
	for _, client := range numbers {
		for _, request := range numbers {
			for _, start := range numbers {
				b := api.Batch{Client: client, Request: request, Start: start, Writes: []api.Write{put("a", "x")}}
				checkPut(t, b, encoded(b))
			}
		}
	}
}

func TestPutError(t *testing.T) {
	for _, x := range []struct {
		b    api.Batch
		want api.Errno
	}{
		{api.Batch{}, api.ErrBatchEmpty},
		{of(many(9)...), api.ErrBatchMany},
		{of(put("", "x")), api.ErrBatchKey},
		{of(put(long("k", 1<<16+1), "x")), api.ErrBatchKey}, // not the error of a field
		{of(put("a", long("v", 1<<16+1))), api.ErrBatchValue},
		{of(api.Write{Key: "a", Value: "x", Gone: true}), api.ErrBatchValue},
		{of(put("b", ""), put("a", "")), api.ErrBatchOrder},
	} {
		if s, e := Put(x.b); s != nil || e != x.want {
			t.Errorf("Put = %.90q, %d; want %d", s, e, x.want)
		}
	}
}

func TestGetForm(t *testing.T) {
	for _, s := range []string{
		"", "\x01", "\x01\x02", "\x01\x02\x03", "\x01\x02\x03\x01", "\x01\x02\x03\x01\x01", "\x01\x02\x03\x01\x01a", "\x01\x02\x03\x01\x01a\x00", "\x01\x02\x03\x01\x01a\x00\x01", // the bytes end
		"\x01\x02\x03\x02\x01a\x01", "\x01\x02\x03\x02\x01a\x01\x01b",
		"\x01\x02\x03\x01\x01a\x01x", "\x01\x02\x03\x01\x01a\x01\x00", "\x01\x02\x03\x01\x01a\x00\x01xx", "\x01\x02\x03\x01\x01a\x01\x01b\x01", // there are more
		"\x01\x02\x03\x01\x01a\x02", "\x01\x02\x03\x01\x01a\xff", "\x01\x02\x03\x01\x01a\x81\x00", // no flag
		"\x81\x00\x02\x03\x01\x01a\x01", "\x01\x82\x00\x03\x01\x01a\x01", "\x01\x02\x83\x00\x01\x01a\x01", "\x01\x02\x03\x81\x00\x01a\x01", "\x01\x02\x03\x01\x81\x00a\x01", "\x01\x02\x03\x01\x01a\x00\x81\x00x", // numbers that are longer than they need to be
		"\xff\xff\xff\xff\xff\xff\xff\xff\xff\x02\x02\x03\x01\x01a\x01",
		"\x01\x02\x03\xff\xff\xff\xff\xff\xff\xff\xff\xff\x01\x01a\x01",
		"\x01\x02\x03\x01\xff\xff\xff\xff\xff\xff\xff\xff\xff\x01a\x01",
		"\x01\x02\x03\x41",
		encoded(api.Batch{}), encoded(of()), // batches that are not valid
		encoded(of(many(9)...)), encoded(of(many(128)...)), encoded(of(many(1 << 16)...)),
		encoded(of(gone(""))), encoded(of(put("", "x"))), encoded(of(gone(long("k", 65)))), encoded(of(gone(long("k", 1<<16)))), encoded(of(gone(long("k", 1<<16+1)))),
		encoded(of(put("a", long("v", 257)))), encoded(of(put("a", long("v", 1<<16)))), encoded(of(put("a", long("v", 1<<16+1)))),
		encoded(of(gone("b"), gone("a"))), encoded(of(gone("a"), gone("a"))), encoded(of(put("a", ""), put("a", ""))),
		encoded(of(gone("a"), put("", ""))),
	} {
		if b, e := Get([]byte(s)); !isZero(b) || e != api.ErrBatchForm {
			t.Errorf("Get(%.90q) = %.300v, %d; want ErrBatchForm", s, b, e)
		}
	}
	if b, e := Get(nil); !isZero(b) || e != api.ErrBatchForm {
		t.Errorf("Get(nil) = %v, %d; want ErrBatchForm", b, e)
	}
}

// TestGetAll tries all short lists of the bytes that matter, behind three numbers.
func TestGetAll(t *testing.T) {
	lists(9, []byte("\x00\x01\x02a"), func(l []byte) { checkGet(t, "\x01\x02\x03"+string(l)) })
}

// someBatches returns valid batches of all numbers of writes, with keys and values at the edges of their lengths.
func someBatches() []api.Batch {
	l := []api.Batch{of(put("a", "x"), gone("b")), of(gone("\x00"), put("\x00\x00", "\x01"), gone("\x01"))}
	for n := range api.MaxOps {
		b := api.Batch{Client: numbers[n], Request: numbers[n+1], Start: numbers[8-n]}
		for i := range n + 1 {
			w := samples()[i].write
			b.Writes = append(b.Writes, w)
		}
		l = append(l, b)
	}
	return l
}

// TestGetChanged cuts, lengthens and changes encodings at every place.
func TestGetChanged(t *testing.T) {
	for _, b := range someBatches() {
		s := encoded(b)
		for n := range s {
			checkGet(t, s[:n])
			checkGet(t, s[n:])
			checkGet(t, s[:n]+s[n+1:])
			for _, x := range []string{"\x00", "\x01", "\x02", "\x09", "a", "b", "\x7f", "\x80", "\xff"} {
				checkGet(t, s[:n]+x+s[n+1:])
				checkGet(t, s[:n]+x+s[n:])
				checkGet(t, s+x)
			}
		}
	}
}

// P5.3

// shortLists returns lists of up to three writes of few keys, most of them of no valid batch.
func shortLists() []api.Batch {
	l := []api.Batch{of(), {}}
	lists(3, []api.Write{put("", "x"), put("a", "x"), put("a", "y"), gone("a"), gone("b"), put("a\x00", ""), put(long("k", 65), "")}, func(w []api.Write) { l = append(l, of(w...)) })
	return l
}

// TestMeets tries all pairs of short lists of writes, both ways round (P5.4: Meets is symmetric).
func TestMeets(t *testing.T) {
	all := shortLists()
	for _, a := range all {
		for _, b := range all {
			want := false
			for _, x := range a.Writes {
				for _, y := range b.Writes {
					want = want || x.Key == y.Key
				}
			}
			if got, back := Meets(a, b), Meets(b, a); got != want || back != want {
				t.Fatalf("Meets of %v and %v = %t, %t", a, b, got, back)
			}
		}
	}
}

func TestMeetsValid(t *testing.T) {
	for _, x := range []struct {
		a, b api.Batch
		want bool
	}{
		{of(put("a", "x")), api.Batch{Client: 7, Request: 8, Start: 9, Writes: []api.Write{gone("a")}}, true}, // keys alone count
		{of(put("a", "x")), of(put("b", "x")), false},
		{of(many(8)...), of(many(8)[7]), true},
		{of(many(8)...), of(many(8)[0]), true},
		{of(many(8)...), of(many(9)[8]), false},
		{of(gone("a"), gone("c"), gone("e")), of(gone("b"), gone("d"), gone("f")), false},
		{of(gone("a"), gone("c"), gone("e")), of(gone("b"), gone("d"), gone("e")), true},
		{of(gone("a")), of(gone("a\x00")), false},
		{of(), of(), false},
		{of(gone("a")), api.Batch{}, false},
	} {
		if got, back := Meets(x.a, x.b), Meets(x.b, x.a); got != x.want || back != x.want {
			t.Errorf("Meets of %v and %v = %t, %t", x.a, x.b, got, back)
		}
	}
}

// TestMeetsMany holds that two lists of very many writes are met soon, in either order.
func TestMeetsMany(t *testing.T) {
	all := many(1 << 19)
	slices.Reverse(all)
	a, b := of(all[:1<<18]...), of(all[1<<18:]...)
	if Meets(a, b) || Meets(b, a) {
		t.Error("no key is common")
	}
	b.Writes = append(b.Writes, gone(a.Writes[len(a.Writes)-1].Key))
	if !Meets(a, b) || !Meets(b, a) {
		t.Error("the last key is common")
	}
}

func TestFind(t *testing.T) {
	for _, b := range shortLists() {
		for _, key := range []string{"", "a", "b", "a\x00", long("k", 65), "c", "A", "\x00"} {
			i := slices.IndexFunc(b.Writes, func(w api.Write) bool { return w.Key == key })
			w, ok := Find(b, key)
			if i < 0 && (w != api.Write{} || ok) || i >= 0 && (w != b.Writes[i] || !ok) {
				t.Fatalf("Find(%v, %q) = %v, %t", b, key, w, ok)
			}
		}
	}
	b := of(many(8)...)
	for _, w := range b.Writes {
		if got, ok := Find(b, w.Key); got != w || !ok {
			t.Errorf("Find(%q) = %v, %t; want %v", w.Key, got, ok, w)
		}
	}
	if w, ok := Find(of(many(1000)...), "\x00\x03\xe7"); w != put("\x00\x03\xe7", "v") || !ok {
		t.Errorf("Find of the last one = %v, %t", w, ok)
	}
}

func TestSame(t *testing.T) {
	all := append(shortLists(), someBatches()...)
	for _, n := range numbers {
		all = append(all, api.Batch{Client: n}, api.Batch{Request: n}, api.Batch{Start: n}, of(append(many(2), put("x", long("v", int(n%300))))...))
	}
	for i, a := range all {
		if !Same(a, deep(a)) || !Same(deep(a), a) {
			t.Fatalf("%v is not the same as itself", a)
		}
		for _, b := range all[:i] {
			if want := equal(a, b); Same(a, b) != want || Same(b, a) != want {
				t.Fatalf("Same of %v and %v is not %t", a, b, want)
			}
		}
	}
}

func TestSameFields(t *testing.T) {
	b := of(put("a", "x"), gone("b"), put("c", ""))
	for i, change := range []func(c *api.Batch){
		func(c *api.Batch) { c.Client += 1 << 32 },
		func(c *api.Batch) { c.Request += 1 << 63 },
		func(c *api.Batch) { c.Start++ },
		func(c *api.Batch) { c.Client, c.Request = c.Request, c.Client },
		func(c *api.Batch) { c.Writes[0].Key = "A" },
		func(c *api.Batch) { c.Writes[0].Value = "y" },
		func(c *api.Batch) { c.Writes[1].Gone = false },
		func(c *api.Batch) { c.Writes[2].Gone = true },
		func(c *api.Batch) { c.Writes[2].Value = "x" },
		func(c *api.Batch) { c.Writes[0], c.Writes[1] = c.Writes[1], c.Writes[0] },
		func(c *api.Batch) { c.Writes = c.Writes[:2] },
		func(c *api.Batch) { c.Writes = append(c.Writes, api.Write{}) },
		func(c *api.Batch) { c.Writes = nil },
	} {
		c := deep(b)
		change(&c)
		if Same(b, c) || Same(c, b) {
			t.Errorf("change %d: %v is the same as %v", i, c, b)
		}
	}
	none, empty := api.Batch{Client: 5}, api.Batch{Client: 5, Writes: []api.Write{}}
	if !Same(none, empty) || !Same(empty, none) || !Same(none, none) || !Same(api.Batch{}, api.Batch{}) {
		t.Error("a nil list is not the same as an empty one")
	}
}

// P5.4

func TestAgain(t *testing.T) {
	seen := map[string]int{}
	for i, b := range someBatches() {
		s, e := Put(b)
		if e != api.OK {
			t.Fatalf("Put(%v) = %d", b, e)
		}
		if got, e := Get(s); !Same(got, b) || !equal(got, b) || e != api.OK {
			t.Errorf("Get(Put(%v)) = %v, %d", b, got, e)
		}
		if j, ok := seen[string(s)]; ok {
			t.Errorf("batches %d and %d have the same encoding", i, j)
		}
		seen[string(s)] = i
	}
}

// TestOneEncoding encodes again what was decoded: no other bytes are the same batch's.
func TestOneEncoding(t *testing.T) {
	found := 0
	lists(8, []byte("\x00\x01\x02a\x81"), func(l []byte) {
		s := append([]byte{1, 2, 3}, l...)
		b, e := Get(s)
		if e != api.OK {
			return
		}
		found++
		if again, e := Put(b); !bytes.Equal(again, s) || e != api.OK {
			t.Fatalf("Put(Get(%q)) = %q, %d", s, again, e)
		}
	})
	if found == 0 {
		t.Error("no bytes were a batch's")
	}
}

// P1: every call ends without a panic, leaves what it is given alone, and answers new memory.

func TestMemory(t *testing.T) {
	whole := []api.Write{put("b", "x"), gone("a"), put("b", "y"), put("0", "z"), gone("0")}
	before := slices.Clone(whole)
	b := of(whole[:3]...) // with unused capacity, which isn't to be written either
	got := Sorted(b).Writes
	for i := range got[:cap(got)] {
		got[:cap(got)][i] = put("q", "q")
	}
	Check(b)
	Put(b)
	Meets(b, b)
	Find(b, "b")
	Same(b, b)
	if !slices.Equal(whole, before) {
		t.Errorf("what was given was changed, or answered: %v; want %v", whole, before)
	}
}

func TestGetMemory(t *testing.T) {
	want := of(put("a", "x"), gone("b"))
	whole := []byte(encoded(want) + "\x01c\x01")
	before := bytes.Clone(whole)
	s := whole[:len(whole)-3] // with unused capacity
	one, e := Get(s)
	if !bytes.Equal(whole, before) || e != api.OK {
		t.Fatalf("Get = %d, and left %q", e, whole)
	}
	two, _ := Get(s)
	for i := range whole {
		whole[i] = 0xaa
	}
	one.Writes[0] = api.Write{}
	if !equal(two, want) {
		t.Errorf("an answer of Get changed to %v", two)
	}
}

func TestPutMemory(t *testing.T) {
	b := of(put("a", "x"))
	one, _ := Put(b)
	two, _ := Put(b)
	for i := range one[:cap(one)] {
		one[:cap(one)][i] = 0xaa
	}
	if three, _ := Put(b); string(two) != encoded(b) || string(three) != encoded(b) {
		t.Errorf("answers of Put share memory: %q, %q", two, three)
	}
}

// TestGetLong holds that Get of a long string ends, wherever its fault is.
func TestGetLong(t *testing.T) {
	for _, s := range []string{"\x00", "\x01", "\x02", "a", "\x80", "\xff"} {
		for _, from := range []string{"", "\x01\x02\x03", "\x01\x02\x03\x01", "\x01\x02\x03\x01\x01a\x01", "\x01\x02\x03\x08\x01"} {
			checkGet(t, from+strings.Repeat(s, 1<<20))
		}
	}
}

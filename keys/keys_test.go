package keys

import (
	"bytes"
	"encoding/binary"
	"math"
	"slices"
	"strings"
	"testing"

	"lapstone/api"
	"lapstone/num"
)

// times are the timestamps at which an encoding could change.
var times = []uint64{0, 1, 2, 255, 256, 300, 1 << 32, api.MaxTime - 1, api.MaxTime, 1 << 63, math.MaxUint64 - 1, math.MaxUint64}

// words returns all strings of up to n of some bytes, in no order.
func words(n int, alphabet string) []string {
	all := []string{""}
	for first := 0; len(all[first]) < n; first++ {
		for i := range len(alphabet) {
			all = append(all, all[first]+alphabet[i:i+1])
		}
	}
	return all
}

// someKeys returns keys of all lengths, plain ones and ones that are full of bytes that matter.
func someKeys() []string {
	l := words(3, "\x00\x01a\xfe\xff")
	for n := range api.MaxKey + 1 {
		for _, s := range []string{"a", "\x00", "\x01", "\xff", "\x00\xff", "\x00\x01", "\xff\x00", "é", "lapstone\x00"} {
			l = append(l, strings.Repeat(s, n)[:n])
		}
	}
	return l
}

// encoded is the encoding, worked out plainly.
func encoded(key string, at uint64) string {
	s := strings.ReplaceAll(key, "\x00", "\x00\xff") + "\x00\x01"
	return string(binary.BigEndian.AppendUint64([]byte(s), ^at))
}

// decoded is the pair whose encoding is s, worked out plainly, and whether there is one.
func decoded(s string) (string, uint64, bool) {
	if len(s) < 10 {
		return "", 0, false
	}
	n := len(s) - 10
	key := strings.ReplaceAll(s[:n], "\x00\xff", "\x00")
	at := ^binary.BigEndian.Uint64([]byte(s[n+2:]))
	if len(key) > 64 || encoded(key, at) != s {
		return "", 0, false
	}
	return key, at, true
}

// checkGet holds Get of s against the plain way.
func checkGet(t *testing.T, s string) {
	t.Helper()
	key, at, ok := decoded(s)
	want := api.OK
	if !ok {
		want = api.ErrKeysForm
	}
	if k, a, e := Get([]byte(s)); k != key || a != at || e != want {
		t.Fatalf("Get(%q) = %q, %d, %d; want %q, %d, %d", s, k, a, e, key, at, want)
	}
}

// P4.1

func TestPut(t *testing.T) {
	for _, x := range []struct {
		key  string
		at   uint64
		want string
	}{
		{"a", 1, "a\x00\x01\xff\xff\xff\xff\xff\xff\xff\xfe"},
		{"\x00", math.MaxUint64, "\x00\xff\x00\x01\x00\x00\x00\x00\x00\x00\x00\x00"},
		{"", 0, "\x00\x01\xff\xff\xff\xff\xff\xff\xff\xff"},
		{"", math.MaxUint64, "\x00\x01\x00\x00\x00\x00\x00\x00\x00\x00"},
		{"", api.MaxTime, "\x00\x01\x80\x00\x00\x00\x00\x00\x00\x00"},
		{"b", 1 << 63, "b\x00\x01\x7f\xff\xff\xff\xff\xff\xff\xff"},
		{"b", 0x0102030405060708, "b\x00\x01\xfe\xfd\xfc\xfb\xfa\xf9\xf8\xf7"},
		{"abc", 256, "abc\x00\x01\xff\xff\xff\xff\xff\xff\xfe\xff"},
		{"\x01", 0, "\x01\x00\x01\xff\xff\xff\xff\xff\xff\xff\xff"},
		{"\xff", 0, "\xff\x00\x01\xff\xff\xff\xff\xff\xff\xff\xff"},
		{"\x00\x00", 0, "\x00\xff\x00\xff\x00\x01\xff\xff\xff\xff\xff\xff\xff\xff"},
		{"\x00\xff", 0, "\x00\xff\xff\x00\x01\xff\xff\xff\xff\xff\xff\xff\xff"},
		{"\x00\x01", 0, "\x00\xff\x01\x00\x01\xff\xff\xff\xff\xff\xff\xff\xff"},
		{"\xff\x00\xff", 0, "\xff\x00\xff\xff\x00\x01\xff\xff\xff\xff\xff\xff\xff\xff"},
		{"a\x00b", 0, "a\x00\xffb\x00\x01\xff\xff\xff\xff\xff\xff\xff\xff"},
		{"é", 0, "\xc3\xa9\x00\x01\xff\xff\xff\xff\xff\xff\xff\xff"}, // bytes, not runes
	} {
		if b, e := Put(x.key, x.at); string(b) != x.want || e != api.OK {
			t.Errorf("Put(%q, %d) = %q, %d; want %q", x.key, x.at, b, e, x.want)
		}
		if key, at, e := Get([]byte(x.want)); key != x.key || at != x.at || e != api.OK {
			t.Errorf("Get(%q) = %q, %d, %d; want %q, %d", x.want, key, at, e, x.key, x.at)
		}
	}
}

// TestPutMany puts keys of all lengths up to MaxKey at all edges of timestamps, and gets them again.
func TestPutMany(t *testing.T) {
	for _, key := range someKeys() {
		for _, at := range times {
			b, e := Put(key, at)
			if string(b) != encoded(key, at) || e != api.OK {
				t.Fatalf("Put(%q, %d) = %q, %d", key, at, b, e)
			}
			if k, a, e := Get(b); k != key || a != at || e != api.OK {
				t.Fatalf("Get(%q) = %q, %d, %d; want %q, %d", b, k, a, e, key, at)
			}
		}
		if b, e := First(key); string(b) != encoded(key, math.MaxUint64) || e != api.OK {
			t.Fatalf("First(%q) = %q, %d", key, b, e)
		}
	}
}

func TestPutLong(t *testing.T) {
	for _, n := range []int{65, 66, 127, 128, 129, 320, 1 << 16} {
		for _, s := range []string{"a", "\x00", "\xff", "é"} {
			key := strings.Repeat(s, n)[:n]
			for _, at := range times {
				if b, e := Put(key, at); b != nil || e != api.ErrKeysLong {
					t.Errorf("Put of %d bytes = %q, %d; want ErrKeysLong", n, b, e)
				}
			}
			if b, e := First(key); b != nil || e != api.ErrKeysLong {
				t.Errorf("First of %d bytes = %q, %d; want ErrKeysLong", n, b, e)
			}
		}
	}
	if b, e := Put(strings.Repeat("é", 32), 7); len(b) != 74 || e != api.OK { // 32 runes of 64 bytes
		t.Errorf("Put of 64 bytes = %q, %d", b, e)
	}
	if b, e := Put(strings.Repeat("é", 33), 7); b != nil || e != api.ErrKeysLong {
		t.Errorf("Put of 66 bytes = %q, %d; want ErrKeysLong", b, e)
	}
}

func TestGetForm(t *testing.T) {
	const ago = "\xff\xff\xff\xff\xff\xff\xff\xfe"
	for _, s := range []string{
		"",
		"\x00\x02",
		"a", "\x00", "\x00\x01", "a\x00\x01", "\x00\xff", // the bytes end
		ago, "\x00" + ago, "\x01" + ago, "a" + ago, "a\x00" + ago, "aa" + ago, "\x00\x01" + ago[:7],
		"\x00\xff" + ago, "a\x00\xff" + ago, "\x01\x01" + ago, "a\x01" + ago, // nothing ends the key
		"\x00\x02" + ago, "a\x00\x02" + ago, "a\x00\x00" + ago, "a\x00\xfe" + ago, // neither 255 nor 1
		"\x00\x00\x01" + ago, "a\x00\x00\x01" + ago, "\x00a\x00\x01" + ago, "\x00\x02\x00\x01" + ago, "\x00\xfe\x00\x01" + ago,
		"\x00\xff\x00\x00\x01" + ago, "\x00\xff\x00a\x00\x01" + ago,
		"\x00\x01\x00\x01" + ago, "a\x00\x01b\x00\x01" + ago, // the key ends earlier
		"a\x00\x01" + ago[:7], "a\x00\x01" + ago[:1], "a\x00\x01a" + ago, "a\x00\x01" + ago + "a", "a\x00\x01" + ago + ago,
		"a\x00\x01" + ago[:7] + "\x00\x01", "a\x00\x01" + ago + "\x00\x01" + ago,
		"\x00\x01\x00\x01\x00\x00\x00\x00\x00\x00\x00", // a byte too many, with an end in front of the last nine
		encoded(strings.Repeat("a", 65), 5),            // too long
		encoded(strings.Repeat("\x00", 65), 5),
		encoded(strings.Repeat("\xff", 65), 5),
		encoded(strings.Repeat("a", 64)+"\x00", 5),
		encoded(strings.Repeat("\x00", 64)+"a", 5),
		encoded(strings.Repeat("a", 1<<16), 5),
	} {
		if key, at, e := Get([]byte(s)); key != "" || at != 0 || e != api.ErrKeysForm {
			t.Errorf("Get(%.90q) = %q, %d, %d; want ErrKeysForm", s, key, at, e)
		}
	}
}

// TestGetAll tries all short strings of the bytes that matter, ahead of eight more ones.
func TestGetAll(t *testing.T) {
	for _, s := range words(7, "\x00\x01a\xff") {
		for _, end := range []string{"", "\x01\x02\x03\x04\x05\x06\x07\x08", "\xff\xff\xff\xff\xff\xff\x00\x01", "\x00\x01\x00\x01\x00\x01\x00\x01"} {
			checkGet(t, s+end)
		}
	}
}

// TestGetChanged cuts, lengthens and changes encodings at every place.
func TestGetChanged(t *testing.T) {
	for _, key := range []string{"", "a", "\x00", "\x00\xff", "ab\x00c", "\x00\x01\x00", strings.Repeat("a", 63), strings.Repeat("a", 64), strings.Repeat("\x00", 64), strings.Repeat("\x00a", 32)} {
		for _, at := range []uint64{0, 5, 1 << 63, math.MaxUint64 - 1} {
			s := encoded(key, at)
			for n := range s {
				checkGet(t, s[:n])
				checkGet(t, s[n:])
				checkGet(t, s[:n]+s[n+1:])
				for _, x := range []string{"\x00", "\x01", "\x02", "a", "\xfe", "\xff"} {
					checkGet(t, s[:n]+x+s[n+1:])
					checkGet(t, s[:n]+x+s[n:])
					checkGet(t, s+x)
				}
			}
		}
	}
}

// P4.2

func TestNext(t *testing.T) {
	for key, want := range map[string]string{"": "\x00", "a": "a\x00", "\x00": "\x00\x00", "\xff": "\xff\x00", "a\xff\xff": "a\xff\xff\x00"} {
		if got := Next(key); got != want {
			t.Errorf("Next(%q) = %q; want %q", key, got, want)
		}
	}
	for _, n := range []int{63, 64, 65, 1000, 1 << 16, 1<<16 + 1, 1 << 20} { // MaxKey is no bound of it
		key := strings.Repeat("\xff", n)
		if got := Next(key); len(got) != n+1 || got[:n] != key || got[n] != 0 {
			t.Errorf("Next of %d bytes has %d bytes", n, len(got))
		}
	}
}

// TestNextLeast holds that no key lies between a key and the next one.
func TestNextLeast(t *testing.T) {
	all := words(4, "\x00\x01a\xff")
	slices.Sort(all)
	for i, key := range all {
		switch next := Next(key); {
		case key >= next:
			t.Errorf("Next(%q) = %q is not greater", key, next)
		case len(key) < 4 && all[i+1] != next:
			t.Errorf("Next(%q) = %q; want %q", key, next, all[i+1])
		}
	}
}

func TestEnd(t *testing.T) {
	for prefix, want := range map[string]string{
		"a":                "b",
		"a\xff":            "b",
		"a\xff\xff":        "b",
		"ab":               "ac",
		"ab\xff":           "ac",
		"\x00":             "\x01",
		"a\x00":            "a\x01",
		"\x00\x00":         "\x00\x01",
		"\x00\xff":         "\x01",
		"\x7f":             "\x80",
		"\xfe":             "\xff",
		"\xfe\xff\xff\xff": "\xff",
		"\xffa":            "\xffb",
		"\xffa\xff":        "\xffb",
		"\xff\xfe":         "\xff\xff",
		"\xff\x00\xff":     "\xff\x01",
		"é":                "\xc3\xaa",
		"a\xef\xbf\xbd":    "a\xef\xbf\xbe", // what stands for bytes that are no rune's is no byte 255
		"\xef\xbf\xbd\xff": "\xef\xbf\xbe",
	} {
		if got, ok := End(prefix); got != want || !ok {
			t.Errorf("End(%q) = %q, %t; want %q, true", prefix, got, ok, want)
		}
	}
	for _, n := range []int{0, 1, 2, 63, 64, 65, 1 << 16} {
		last := strings.Repeat("\xff", n)
		if got, ok := End(last); got != "" || ok {
			t.Errorf("End of %d bytes 255 = %q, %t; want none", n, got, ok)
		}
		if got, ok := End("ab" + last); got != "ac" || !ok {
			t.Errorf("End of ab and %d bytes 255 = %q, %t; want ac", n, got, ok)
		}
		if got, ok := End(last + "a"); got != last+"b" || !ok {
			t.Errorf("End of %d bytes 255 and a = %.80q, %t", n, got, ok)
		}
	}
}

func TestIn(t *testing.T) {
	for _, x := range []struct {
		key, from, to string
		open, want    bool
	}{
		{"b", "a", "c", false, true},
		{"a", "a", "c", false, true}, // just from
		{"c", "a", "c", false, false},
		{"b\xff\xff", "a", "c", false, true},
		{"c\x00", "a", "c", false, false},
		{"a\x00", "a", "a\x00\x00", false, true},
		{"", "a", "c", false, false},
		{"", "", "a", false, true},
		{"", "", "\x00", false, true},
		{"\x00", "", "\x00", false, false},
		{"\xff", "\x7f", "\xff\x00", false, true}, // bytes have no sign
		{"a", "\x7f", "\xff", false, false},
		{"B", "a", "c", false, false},
		{"", "", "", false, false}, // empty ranges
		{"a", "a", "a", false, false},
		{"b", "c", "a", false, false},
		{"a", "c", "a", false, false},
		{"c", "c", "a", false, false},
		{"a", "", "", false, false},
		{"", "", "", true, true}, // open ranges: to doesn't count
		{"a", "", "", true, true},
		{"a", "a", "", true, true},
		{"b", "a", "b", true, true},
		{"c", "a", "b", true, true},
		{"b", "c", "a", true, false},
		{"c", "c", "a", true, true},
		{"", "a", "", true, false},
		{"\xff\xff", "\xff", "", true, true},
		{strings.Repeat("a", 1000), strings.Repeat("a", 999), strings.Repeat("a", 1001), false, true}, // MaxKey is no bound of it
		{strings.Repeat("a", 998), strings.Repeat("a", 999), "", true, false},
	} {
		if got := In(x.key, x.from, x.to, x.open); got != x.want {
			t.Errorf("In(%.20q, %.20q, %.20q, %t) = %t", x.key, x.from, x.to, x.open, got)
		}
	}
}

// TestInAll tries all ranges of short keys, by their places among all of them.
func TestInAll(t *testing.T) {
	all := words(2, "\x00a\xfe\xff")
	slices.Sort(all)
	for i, from := range all {
		for j, to := range all {
			for k, key := range all {
				if got := In(key, from, to, false); got != (i <= k && k < j) {
					t.Errorf("In(%q, %q, %q, false) = %t", key, from, to, got)
				}
				if got := In(key, from, to, true); got != (i <= k) {
					t.Errorf("In(%q, %q, %q, true) = %t", key, from, to, got)
				}
			}
		}
	}
}

// P4.3

// TestOrder puts all short keys and some long ones at all edges of timestamps: their encodings are ordered like the pairs.
func TestOrder(t *testing.T) {
	sorted := words(3, "\x00\x01\x02a\xfe\xff")
	for _, n := range []int{63, 64} {
		for _, s := range []string{"\x00", "\x01", "a", "\xff"} {
			sorted = append(sorted, strings.Repeat(s, n), strings.Repeat(s, n-1)+"\x00", strings.Repeat(s, n-1)+"\xff")
		}
	}
	slices.Sort(sorted)
	var before []byte
	for _, key := range slices.Compact(sorted) {
		first, _ := First(key)
		if num.Cmp(before, first) != -1 {
			t.Fatalf("First(%q) = %q is not behind %q", key, first, before)
		}
		for i := len(times) - 1; i >= 0; i-- { // the greatest timestamp is first
			b, _ := Put(key, times[i])
			if num.Cmp(before, b) != -1 || num.Cmp(first, b) == 1 {
				t.Fatalf("Put(%q, %d) = %q is not behind %q", key, times[i], b, before)
			}
			before = b
		}
	}
}

// TestPrefix tries all short keys and prefixes: a key begins with a prefix just if it lies in the range from there to the prefix's end.
func TestPrefix(t *testing.T) {
	all := words(4, "\x00\x01a\xfe\xff")
	for _, prefix := range words(3, "\x00\x01a\xfe\xff") {
		end, ok := End(prefix)
		for _, key := range all {
			want := strings.HasPrefix(key, prefix)
			if got := key >= prefix && (!ok || key < end); got != want {
				t.Fatalf("End(%q) = %q, %t, but %q begins with it: %t", prefix, end, ok, key, want)
			}
			if got := In(key, prefix, end, !ok); got != want {
				t.Fatalf("In(%q, %q, %q, %t) = %t", key, prefix, end, !ok, got)
			}
		}
	}
}

// P1: every call ends without a panic, leaves what it is given alone, and answers new memory.

func TestMemory(t *testing.T) {
	whole := []byte(encoded("a\x00b", 5) + "\xff\x00\x01\x02\x03\x04\x05\x06\x07\x08")
	before := bytes.Clone(whole)
	b := whole[:len(whole)-10] // with unused capacity, which isn't to be written either
	key, at, e := Get(b)
	if !bytes.Equal(whole, before) {
		t.Fatalf("Get changed what was given to %q", whole)
	}
	for i := range whole {
		whole[i] = 0xaa
	}
	if key != "a\x00b" || at != 5 || e != api.OK {
		t.Errorf("Get kept what it was given: %q, %d, %d", key, at, e)
	}
}

func TestPutNew(t *testing.T) {
	for _, put := range []func() ([]byte, api.Errno){
		func() ([]byte, api.Errno) { return Put("a\x00", 5) },
		func() ([]byte, api.Errno) { return First("") },
		func() ([]byte, api.Errno) { return Put("", 0) },
	} {
		one, _ := put()
		want := string(one)
		two, _ := put()
		for i := range one[:cap(one)] {
			one[:cap(one)][i] = 0xaa
		}
		if three, _ := put(); string(two) != want || string(three) != want {
			t.Errorf("answers share memory: %q, %q; want %q", two, three, want)
		}
	}
}

// TestGetLong holds that Get of a long string ends, wherever its fault is.
func TestGetLong(t *testing.T) {
	for _, s := range []string{"a", "\x00", "\x01", "\xff", "\x00\xff", "\x00\x01"} {
		checkGet(t, strings.Repeat(s, 1<<20))
		checkGet(t, strings.Repeat(s, 1<<20)+"\x00\x01\x00\x00\x00\x00\x00\x00\x00\x05")
	}
	checkGet(t, "")
	if key, at, e := Get(nil); key != "" || at != 0 || e != api.ErrKeysForm {
		t.Errorf("Get(nil) = %q, %d, %d; want ErrKeysForm", key, at, e)
	}
}

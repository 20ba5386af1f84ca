package num

import (
	"bytes"
	"cmp"
	"fmt"
	"math"
	"strings"
	"testing"

	"lapstone/api"
)

// edges returns the numbers at which an encoding could change: around every power of two.
func edges() []uint64 {
	l := []uint64{0, 258, 300, 0x0102030405060708, math.MaxUint64 - 1, math.MaxUint64}
	for k := range 64 {
		l = append(l, 1<<k-1, 1<<k, 1<<k+1)
	}
	return l
}

// greatest returns the greatest number that n bytes hold.
func greatest(n int) uint64 { return math.MaxUint64 >> (64 - 8*n) }

var noWidths = []int{0, 9, -1, 10, 16, 64, 255, 256, 257, -8, math.MaxInt32, math.MinInt32, math.MaxInt, math.MinInt, 1<<32 + 1}

// P1.1

func TestPut(t *testing.T) {
	for _, x := range []struct {
		b    string
		v    uint64
		n    int
		want string
	}{
		{"", 258, 2, "\x01\x02"},
		{"", 0, 1, "\x00"},
		{"", 0, 8, "\x00\x00\x00\x00\x00\x00\x00\x00"},
		{"", 255, 1, "\xff"},
		{"", 256, 2, "\x01\x00"},
		{"", 7, 3, "\x00\x00\x07"},
		{"ab", 0x010203, 3, "ab\x01\x02\x03"},
		{"ab", 0x01020304, 4, "ab\x01\x02\x03\x04"},
		{"\x00", 0x0102030405, 5, "\x00\x01\x02\x03\x04\x05"},
		{"\xff", 0x010203040506, 6, "\xff\x01\x02\x03\x04\x05\x06"},
		{"", 0x01020304050607, 7, "\x01\x02\x03\x04\x05\x06\x07"},
		{"", 0x0102030405060708, 8, "\x01\x02\x03\x04\x05\x06\x07\x08"},
		{"", math.MaxUint64, 8, "\xff\xff\xff\xff\xff\xff\xff\xff"},
	} {
		if b, e := Put([]byte(x.b), x.v, x.n); string(b) != x.want || e != api.OK {
			t.Errorf("Put(%q, %d, %d) = %q, %d; want %q", x.b, x.v, x.n, b, e, x.want)
		}
	}
}

func TestPutGreatest(t *testing.T) {
	for n := 1; n <= 8; n++ {
		want := "x" + strings.Repeat("\xff", n)
		if b, e := Put([]byte("x"), greatest(n), n); string(b) != want || e != api.OK {
			t.Errorf("the greatest number of %d bytes: %q, %d", n, b, e)
		}
		if n == 8 {
			continue
		}
		for _, v := range []uint64{greatest(n) + 1, greatest(n) + 2, math.MaxUint64} {
			if b, e := Put([]byte("x"), v, n); b != nil || e != api.ErrNumRange {
				t.Errorf("Put(x, %d, %d) = %q, %d; want ErrNumRange", v, n, b, e)
			}
		}
	}
}

func TestWidthRange(t *testing.T) {
	for _, n := range noWidths {
		for _, v := range []uint64{0, 1, math.MaxUint64} {
			if b, e := Put([]byte("x"), v, n); b != nil || e != api.ErrNumRange {
				t.Errorf("Put(x, %d, %d) = %q, %d; want ErrNumRange", v, n, b, e)
			}
		}
		for _, s := range []string{"", "a", "abcdefghijkl"} { // too few bytes: ErrNumRange comes first
			if v, r, e := Get([]byte(s), n); v != 0 || r != nil || e != api.ErrNumRange {
				t.Errorf("Get(%q, %d) = %d, %q, %d; want ErrNumRange", s, n, v, r, e)
			}
		}
	}
}

func TestGet(t *testing.T) {
	const s = "\x01\x02\x03\x04\x05\x06\x07\x08\xff"
	for i, want := range []uint64{0x01, 0x0102, 0x010203, 0x01020304, 0x0102030405, 0x010203040506, 0x01020304050607, 0x0102030405060708} {
		n := i + 1
		if v, r, e := Get([]byte(s), n); v != want || string(r) != s[n:] || e != api.OK {
			t.Errorf("Get(%q, %d) = %d, %q, %d; want %d", s, n, v, r, e, want)
		}
		if v, r, e := Get([]byte(s[:n]), n); v != want || len(r) != 0 || e != api.OK {
			t.Errorf("Get(%q, %d) = %d, %q, %d; want %d", s[:n], n, v, r, e, want)
		}
		for k := range n {
			if v, r, e := Get([]byte(s[:k]), n); v != 0 || r != nil || e != api.ErrNumShort {
				t.Errorf("Get(%q, %d) = %d, %q, %d; want ErrNumShort", s[:k], n, v, r, e)
			}
		}
		if v, _, e := Get([]byte(strings.Repeat("\xff", n)), n); v != greatest(n) || e != api.OK {
			t.Errorf("the greatest number of %d bytes: %d, %d", n, v, e)
		}
	}
}

// P1.2

func TestPutVar(t *testing.T) {
	for _, x := range []struct {
		v    uint64
		want string
	}{
		{0, "\x00"},
		{1, "\x01"},
		{127, "\x7f"},
		{128, "\x80\x01"},
		{256, "\x80\x02"},
		{300, "\xac\x02"},
		{1<<14 - 1, "\xff\x7f"},
		{1 << 14, "\x80\x80\x01"},
		{1<<63 - 1, "\xff\xff\xff\xff\xff\xff\xff\xff\x7f"},
		{1 << 63, "\x80\x80\x80\x80\x80\x80\x80\x80\x80\x01"},
		{math.MaxUint64, "\xff\xff\xff\xff\xff\xff\xff\xff\xff\x01"},
	} {
		for _, b := range []string{"", "x", "\x80"} {
			if got := PutVar([]byte(b), x.v); string(got) != b+x.want {
				t.Errorf("PutVar(%q, %d) = %q; want %q", b, x.v, got, b+x.want)
			}
		}
		if n := Size(x.v); n != len(x.want) {
			t.Errorf("Size(%d) = %d; want %d", x.v, n, len(x.want))
		}
		if v, r, e := GetVar([]byte(x.want + "\x80y")); v != x.v || string(r) != "\x80y" || e != api.OK {
			t.Errorf("GetVar(%q) = %d, %q, %d; want %d", x.want, v, r, e, x.v)
		}
	}
}

func TestSizeGrows(t *testing.T) {
	for n := 1; n <= 9; n++ {
		least := uint64(1) << (7 * n) // the least number of n + 1 bytes
		if Size(least-1) != n || Size(least) != n+1 || len(PutVar(nil, least-1)) != n || len(PutVar(nil, least)) != n+1 {
			t.Errorf("around %d: %d, %d; want %d, %d", least, Size(least-1), Size(least), n, n+1)
		}
	}
	if Size(math.MaxUint64) != 10 {
		t.Errorf("Size of the greatest number = %d; want 10", Size(math.MaxUint64))
	}
}

func TestGetVar(t *testing.T) {
	for _, x := range []struct {
		b    string
		v    uint64
		rest string
	}{
		{"\x00", 0, ""},
		{"\x00\x00", 0, "\x00"}, // the first byte may be 0
		{"\xac\x02\x09", 300, "\x09"},
		{"\x80\x01\x80", 128, "\x80"},
		{"\x80\x80\x01", 1 << 14, ""},
		{"\x7f\xff\xff", 127, "\xff\xff"},
		{"\x80\x80\x80\x80\x80\x80\x80\x80\x01\x01", 1 << 56, "\x01"},
		{"\x80\x80\x80\x80\x80\x80\x80\x80\x7f", 127 << 56, ""},
		{"\x80\x80\x80\x80\x80\x80\x80\x80\x80\x01\x00", 1 << 63, "\x00"},
		{"\xff\xff\xff\xff\xff\xff\xff\xff\xff\x01\xff", math.MaxUint64, "\xff"},
	} {
		if v, r, e := GetVar([]byte(x.b)); v != x.v || string(r) != x.rest || e != api.OK {
			t.Errorf("GetVar(%q) = %d, %q, %d; want %d, %q", x.b, v, r, e, x.v, x.rest)
		}
	}
}

func TestGetVarErrors(t *testing.T) {
	const nine = "\xff\x80\xff\x80\xff\x80\xff\x80\xff"
	for _, x := range []struct {
		b    string
		want api.Errno
	}{
		{"", api.ErrNumShort},
		{"\x80", api.ErrNumShort},
		{"\xff", api.ErrNumShort},
		{"\x80\x80", api.ErrNumShort},
		{nine[:8], api.ErrNumShort},
		{nine, api.ErrNumShort},
		{"\x80\x00", api.ErrNumForm},
		{"\x80\x00\x01", api.ErrNumForm},
		{"\xff\x00", api.ErrNumForm},
		{"\x80\x80\x00", api.ErrNumForm},
		{"\x81\x80\x00\x05", api.ErrNumForm},
		{nine[:8] + "\x00", api.ErrNumForm},
		{nine + "\x00", api.ErrNumForm},
		{nine + "\x00\x01", api.ErrNumForm},
		{nine + "\x02", api.ErrNumForm},
		{nine + "\x02\x01", api.ErrNumForm},
		{nine + "\x7f", api.ErrNumForm},
		{nine + "\x80", api.ErrNumForm},
		{nine + "\x81", api.ErrNumForm},
		{nine + "\x80\x00", api.ErrNumForm},
		{nine + "\x80\x01", api.ErrNumForm},
		{nine + "\xff", api.ErrNumForm},
		{nine + nine + nine, api.ErrNumForm},
	} {
		if v, r, e := GetVar([]byte(x.b)); v != 0 || r != nil || e != x.want {
			t.Errorf("GetVar(%q) = %d, %q, %d; want %d", x.b, v, r, e, x.want)
		}
	}
}

// TestGetVarTenth tries every tenth byte: only 1 ends a number.
func TestGetVarTenth(t *testing.T) {
	nine := bytes.Repeat([]byte{0x80}, 9)
	for x := range 256 {
		b := append(bytes.Clone(nine), byte(x))
		v, _, e := GetVar(b)
		if x == 1 && (v != 1<<63 || e != api.OK) || x != 1 && (v != 0 || e != api.ErrNumForm) {
			t.Errorf("tenth byte %d: %d, %d", x, v, e)
		}
	}
}

// TestGetVarPairs tries all strings of two bytes, whose answers are plain to tell.
func TestGetVarPairs(t *testing.T) {
	for x := range 256 {
		for y := range 256 {
			want, rest, err := uint64(x), string([]byte{byte(y)}), api.OK
			switch {
			case x >= 128 && y >= 128:
				want, rest, err = 0, "", api.ErrNumShort
			case x >= 128 && y == 0:
				want, rest, err = 0, "", api.ErrNumForm
			case x >= 128:
				want, rest = uint64(x-128+128*y), ""
			}
			if v, r, e := GetVar([]byte{byte(x), byte(y)}); v != want || string(r) != rest || e != err {
				t.Fatalf("GetVar(%d, %d) = %d, %q, %d; want %d, %q, %d", x, y, v, r, e, want, rest, err)
			}
		}
	}
}

// P1.3

func TestCmp(t *testing.T) {
	for _, x := range []struct {
		a, b string
		want int
	}{
		{"", "", 0},
		{"", "a", -1},
		{"", "\x00", -1},
		{"a", "ab", -1},
		{"ab", "a", 1},
		{"a", "a\x00", -1},
		{"ab", "ab", 0},
		{"b", "ab", 1},
		{"a", "b", -1},
		{"abc", "abd", -1},
		{"abcz", "abd", -1},
		{"\x7f", "\x80", -1}, // bytes have no sign
		{"\xff", "a", 1},
		{"\x00", "\xff", -1},
		{"\xff\x00", "\xff\x00\x00", -1},
	} {
		if got := Cmp([]byte(x.a), []byte(x.b)); got != x.want {
			t.Errorf("Cmp(%q, %q) = %d; want %d", x.a, x.b, got, x.want)
		}
		if got := Cmp([]byte(x.b), []byte(x.a)); got != -x.want {
			t.Errorf("Cmp(%q, %q) = %d; want %d", x.b, x.a, got, -x.want)
		}
	}
	if Cmp(nil, []byte{}) != 0 || Cmp([]byte{}, nil) != 0 || Cmp(nil, nil) != 0 {
		t.Error("nil and empty differ")
	}
}

// TestCmpAll compares all strings of up to four of some bytes with each other.
func TestCmpAll(t *testing.T) {
	all := []string{""}
	for first := 0; len(all[first]) < 4; first++ {
		for _, c := range []string{"\x00", "a", "\xff"} {
			all = append(all, all[first]+c)
		}
	}
	for _, a := range all {
		for _, b := range all {
			if got, want := Cmp([]byte(a), []byte(b)), strings.Compare(a, b); got != want {
				t.Fatalf("Cmp(%q, %q) = %d; want %d", a, b, got, want)
			}
		}
	}
}

// P1.4

func TestFixedAgain(t *testing.T) {
	for n := 1; n <= 8; n++ {
		for _, v := range edges() {
			if v > greatest(n) {
				continue
			}
			b, e := Put(nil, v, n)
			if len(b) != n || e != api.OK {
				t.Fatalf("Put(nil, %d, %d) = %q, %d", v, n, b, e)
			}
			if w, r, e := Get(append(b, "rest"...), n); w != v || string(r) != "rest" || e != api.OK {
				t.Fatalf("Get(%q, %d) = %d, %q, %d; want %d", b, n, w, r, e, v)
			}
		}
	}
}

func TestVarAgain(t *testing.T) {
	for _, v := range edges() {
		b := PutVar(nil, v)
		if len(b) != Size(v) {
			t.Errorf("PutVar(nil, %d) has %d bytes; Size says %d", v, len(b), Size(v))
		}
		if w, r, e := GetVar(append(b, "rest"...)); w != v || string(r) != "rest" || e != api.OK {
			t.Errorf("GetVar(%q) = %d, %q, %d; want %d", b, w, r, e, v)
		}
		for k := range len(b) {
			if w, r, e := GetVar(b[:k]); w != 0 || r != nil || e != api.ErrNumShort {
				t.Errorf("GetVar(%q) = %d, %q, %d; want ErrNumShort", b[:k], w, r, e)
			}
		}
	}
}

func TestFixedOrder(t *testing.T) {
	for n := 1; n <= 8; n++ {
		for _, v := range edges() {
			for _, w := range edges() {
				if max(v, w) > greatest(n) {
					continue
				}
				a, _ := Put(nil, v, n)
				b, _ := Put(nil, w, n)
				if Cmp(a, b) != cmp.Compare(v, w) {
					t.Fatalf("%d bytes of %d and of %d: Cmp = %d", n, v, w, Cmp(a, b))
				}
			}
		}
	}
}

// P1: every call ends without a panic, leaves what it is given alone, and answers new memory.

// calls answers what every call with bytes answers for b, the bytes of an answer first.
func calls(b []byte) map[string][]byte {
	l := map[string][]byte{"PutVar": PutVar(b, 300)}
	_, l["GetVar"], _ = GetVar(b)
	for n := -1; n <= 10; n++ {
		l[fmt.Sprint("Put ", n)], _ = Put(b, 200, n)
		_, l[fmt.Sprint("Get ", n)], _ = Get(b, n)
	}
	return l
}

func TestMemory(t *testing.T) {
	for size := range 13 {
		whole := bytes.Repeat([]byte{0x55}, 40)
		before := bytes.Clone(whole)
		b := whole[:size] // with unused capacity, which isn't to be written either
		for name, got := range calls(b) {
			if !bytes.Equal(whole, before) {
				t.Fatalf("%s changed what it was given", name)
			}
			for i := range got[:cap(got)] {
				got[:cap(got)][i] = 0xaa
			}
			if !bytes.Equal(whole, before) {
				t.Fatalf("%s answered memory that it was given", name)
			}
		}
		if Cmp(b, whole); !bytes.Equal(whole, before) {
			t.Fatal("Cmp changed what it was given")
		}
	}
}

func TestNil(t *testing.T) {
	nothing, empty := calls(nil), calls([]byte{})
	for name, b := range nothing {
		if !bytes.Equal(b, empty[name]) {
			t.Errorf("%s: nil %q, empty %q", name, b, empty[name])
		}
	}
	if b, e := Put(nil, 1, 1); string(b) != "\x01" || e != api.OK {
		t.Errorf("Put(nil, 1, 1) = %q, %d", b, e)
	}
	if string(PutVar(nil, 1)) != "\x01" {
		t.Errorf("PutVar(nil, 1) = %q", PutVar(nil, 1))
	}
}
